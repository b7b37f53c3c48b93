import Derived.Test.YtlalnkabfigodaaDoorCoSa
namespace Go.Proofs.YtlalnkabfigodaaDoor
open Go.Lib (hid)
open Go.RowKit

/-- a whole coercion is stored -/
def set12 (w : World) (g : Nat) (r : RawC) : World := ((((((((((((w.setCell ⟨g, 0, none⟩ (.int .i64 r.h.f0)).setCell ⟨g, 1, none⟩ (.int .i64 r.h.f1)).setCell ⟨g, 2, none⟩ (.int .i64 r.h.f2)).setCell ⟨g, 3, none⟩ (.int .i64 r.h.f3)).setCell ⟨g, 4, none⟩ (.int .i64 r.h.f4)).setCell ⟨g, 5, none⟩ (.int .i64 r.h.f5)).setCell ⟨g, 6, none⟩ (.int .i64 r.h.pair)).setCell ⟨g, 7, none⟩ (.int .i64 r.h.pl)).setCell ⟨g, 8, none⟩ (r.pv)).setCell ⟨g, 9, none⟩ (.int .i64 r.h.fn)).setCell ⟨g, 10, none⟩ (.int .i64 r.h.fl)).setCell ⟨g, 11, none⟩ (r.fv))
section
variable {w w0 : World} {g B : Nat} {T : TypeId} {r r' : RawC}
theorem CBox.set12 (h : CBox w g T r) : CBox (set12 w g r') g T r' := by
 have h12 := ((((((((((((h.s0 (x := r'.h.f0)).s1 (x := r'.h.f1)).s2 (x := r'.h.f2)).s3 (x := r'.h.f3)).s4 (x := r'.h.f4)).s5 (x := r'.h.f5)).s6 (x := r'.h.pair)).s7 (x := r'.h.pl)).s8 (x := r'.pv)).s9 (x := r'.h.fn)).s10 (x := r'.h.fl)).s11 (x := r'.fv))
 exact h12
/-- the result is read out of its cell -/
theorem ret12 {P : Program} {fn : Func} {R : Ending → World → Prop} {a : Act} {T : TypeId} {r0 : RawC} (w : World) (g : Nat) (raw : RawC) (h : CBox w g T r0) (hR : R (.returned (coV raw)) (Go.Proofs.YtlalnkabfigodaaDoor.set12 w g raw))
  (hr : ∀ wf, CBox wf g T raw → (results fn a.tmps).run P wf = .ok (coV raw) wf) (hd : a.defers = []) : bodyPost P fn R .ret a (Go.Proofs.YtlalnkabfigodaaDoor.set12 w g raw) :=
 bodyPost_ret (hr _ (CBox.set12 h)) hd hR
theorem CBox.other12 {m : Nat} (h : CBox w g T r) (hm : g ≠ m) : CBox (Go.Proofs.YtlalnkabfigodaaDoor.set12 w m r') g T r := ((((((((((((h.other (i := 0) hm).other (i := 1) hm).other (i := 2) hm).other (i := 3) hm).other (i := 4) hm).other (i := 5) hm).other (i := 6) hm).other (i := 7) hm).other (i := 8) hm).other (i := 9) hm).other (i := 10) hm).other (i := 11) hm)
theorem Below.set12 (h : Below B w0 w) (hg : B ≤ g) : Below B w0 (Go.Proofs.YtlalnkabfigodaaDoor.set12 w g r') := ((((((((((((h.setCell (p := ⟨g, 0, none⟩) hg _).setCell (p := ⟨g, 1, none⟩) hg _).setCell (p := ⟨g, 2, none⟩) hg _).setCell (p := ⟨g, 3, none⟩) hg _).setCell (p := ⟨g, 4, none⟩) hg _).setCell (p := ⟨g, 5, none⟩) hg _).setCell (p := ⟨g, 6, none⟩) hg _).setCell (p := ⟨g, 7, none⟩) hg _).setCell (p := ⟨g, 8, none⟩) hg _).setCell (p := ⟨g, 9, none⟩) hg _).setCell (p := ⟨g, 10, none⟩) hg _).setCell (p := ⟨g, 11, none⟩) hg _)
theorem CoVN.set12 {N : Nat → Prop} {v : Value} {c : Co} (h : CoVN N w v c) (hg : N g) : CoVN N (Go.Proofs.YtlalnkabfigodaaDoor.set12 w g r') v c := ((((((((((((h.set ⟨g, 0, none⟩ hg _).set ⟨g, 1, none⟩ hg _).set ⟨g, 2, none⟩ hg _).set ⟨g, 3, none⟩ hg _).set ⟨g, 4, none⟩ hg _).set ⟨g, 5, none⟩ hg _).set ⟨g, 6, none⟩ hg _).set ⟨g, 7, none⟩ hg _).set ⟨g, 8, none⟩ hg _).set ⟨g, 9, none⟩ hg _).set ⟨g, 10, none⟩ hg _).set ⟨g, 11, none⟩ hg _)
theorem CoSN.set12 {N : Nat → Prop} {v : Value} {l : List Co} (h : CoS w (Lc N w) v l) (hg : N g) : CoS (Go.Proofs.YtlalnkabfigodaaDoor.set12 w g r') (Lc N (Go.Proofs.YtlalnkabfigodaaDoor.set12 w g r')) v l :=
 (CoSN.set (CoSN.set (CoSN.set (CoSN.set (CoSN.set (CoSN.set (CoSN.set (CoSN.set (CoSN.set (CoSN.set (CoSN.set (CoSN.set h ⟨g, 0, none⟩ hg _) ⟨g, 1, none⟩ hg _) ⟨g, 2, none⟩ hg _) ⟨g, 3, none⟩ hg _) ⟨g, 4, none⟩ hg _) ⟨g, 5, none⟩ hg _) ⟨g, 6, none⟩ hg _) ⟨g, 7, none⟩ hg _) ⟨g, 8, none⟩ hg _) ⟨g, 9, none⟩ hg _) ⟨g, 10, none⟩ hg _) ⟨g, 11, none⟩ hg _)
end
/-- a slice of one coercion -/
theorem CoS.one {N : Nat → Prop} {W0 : World} {T : TypeId} {r : RawC} {c : Co} (hN : ∀ b, N b → b < W0.heap.size) (h : RawCo W0 (Lc N W0) r c) : CoS (W0.alloc (.cells #[.int .i64 r.h.f0, .int .i64 r.h.f1, .int .i64 r.h.f2, .int .i64 r.h.f3, .int .i64 r.h.f4, .int .i64 r.h.f5, .int .i64 r.h.pair, .int .i64 r.h.pl, r.pv, .int .i64 r.h.fn, .int .i64 r.h.fl, r.fv] T)) (Lc N (W0.alloc (.cells #[.int .i64 r.h.f0, .int .i64 r.h.f1, .int .i64 r.h.f2, .int .i64 r.h.f3, .int .i64 r.h.f4, .int .i64 r.h.f5, .int .i64 r.h.pair, .int .i64 r.h.pl, r.pv, .int .i64 r.h.fn, .int .i64 r.h.fl, r.fv] T))) (.slice (some ⟨W0.heap.size, 0, none⟩) 1 1) [c] := by
 have hb : CBox (W0.alloc (.cells #[.int .i64 r.h.f0, .int .i64 r.h.f1, .int .i64 r.h.f2, .int .i64 r.h.f3, .int .i64 r.h.f4, .int .i64 r.h.f5, .int .i64 r.h.pair, .int .i64 r.h.pl, r.pv, .int .i64 r.h.fn, .int .i64 r.h.fl, r.fv] T)) W0.heap.size T r := CBox.made _ _ _
 refine CoS.mk (l := [c]) (rs := [r]) ⟨hb.lt, fun h => Nat.lt_irrefl _ (hN _ h)⟩ (by unfold maxLen; simp) (fun j hj => ?_) ⟨rfl, fun j hj => ?_⟩ (Nat.le_refl _)
 ·
  have h0 : j = 0 := by simpa using hj
  subst h0
  intro i _
  rw [Nat.zero_mul, Nat.zero_add]
  exact hb.c i
 ·
  have h0 : j = 0 := by simpa using hj
  subst h0
  have hbl : Below W0.heap.size W0 (W0.alloc (.cells #[.int .i64 r.h.f0, .int .i64 r.h.f1, .int .i64 r.h.f2, .int .i64 r.h.f3, .int .i64 r.h.f4, .int .i64 r.h.f5, .int .i64 r.h.pair, .int .i64 r.h.pl, r.pv, .int .i64 r.h.fn, .int .i64 r.h.fl, r.fv] T)) := (Below.refl _ _).alloc (Nat.le_refl _) _
  exact h.mono (fun b h => ⟨Nat.lt_of_lt_of_le h.1 hbl.size, h.2⟩) fun _ _ h => hbl.cell (p := ⟨_, _, none⟩) h.1
theorem CoVN.raw {N : Nat → Prop} {w : World} {h : Hd} {pv fv : Value} {c : Co} (hv : CoVN N w (.agg #[.int .i64 h.f0, .int .i64 h.f1, .int .i64 h.f2, .int .i64 h.f3, .int .i64 h.f4, .int .i64 h.f5, .int .i64 h.pair, .int .i64 h.pl, pv, .int .i64 h.fn, .int .i64 h.fl, fv]) c) : RawCo w (Lc N w) ⟨h, pv, fv⟩ c := by
 obtain ⟨⟨⟨g0, g1, g2, g3, g4, g5, g6, g7, g8, g9⟩, pv', fv'⟩, e, hr⟩ := hv
 obtain ⟨h0, h1, h2, h3, h4, h5, h6, h7, h8, h9⟩ := h
 simp only [coV, Value.agg.injEq, Array.mk.injEq, List.cons.injEq, Value.int.injEq, true_and, and_true] at e
 obtain ⟨rfl, rfl, rfl, rfl, rfl, rfl, rfl, rfl, rfl, rfl, rfl, rfl⟩ := e
 exact hr

set_option maxRecDepth 100000 in
set_option maxHeartbeats 8000000 in
theorem rlists_go (N : Nat → Prop) (c : Co) (l : Int) (v : Value) (w : World) (hN : ∀ b, N b → b < w.heap.size) (hv : CoVN N w v c) : Calls Tryd.prog 54 #[v, .int .i64 l] w (CoPost N (listsC c l) w) := by
 obtain ⟨pa, pc, fa, fc, rfl, hp, hf⟩ := hv.form
 obtain ⟨np, hnp⟩ : ∃ n, n = c.pairs.length := ⟨_, rfl⟩
 obtain ⟨nf, hnf⟩ : ∃ n, n = c.funs.length := ⟨_, rfl⟩
 rw [← hnp] at hp hv ⊢
 rw [← hnf] at hf hv ⊢
 have bp : (np : Int) ≤ 9223372036854775807 := by have := hp.len; rw [← hnp] at this; unfold maxLen at this; omega
 have bf : (nf : Int) ≤ 9223372036854775807 := by have := hf.len; rw [← hnf] at this; unfold maxLen at this; omega
 obtain ⟨W, hW⟩ : ∃ W, W = (w.alloc (.cells #[.int .i64 c.h.f0, .int .i64 c.h.f1, .int .i64 c.h.f2, .int .i64 c.h.f3, .int .i64 c.h.f4, .int .i64 c.h.f5, .int .i64 c.h.pair, .int .i64 c.h.pl, .slice pa np pc, .int .i64 c.h.fn, .int .i64 c.h.fl, .slice fa nf fc] 30)).alloc (.cells #[.int .i64 0, .int .i64 0, .int .i64 0, .int .i64 0, .int .i64 0, .int .i64 0, .int .i64 0, .int .i64 0, .slice none 0 0, .int .i64 0, .int .i64 0, .slice none 0 0] 30) := ⟨_, rfl⟩
 obtain ⟨g, hg⟩ : ∃ g, g = w.heap.size + 1 := ⟨_, rfl⟩
 have HX := hid (show CBox W w.heap.size 30 ⟨c.h, .slice pa np pc, .slice fa nf fc⟩ by rw [hW]; exact (CBox.made _ _ ⟨c.h, .slice pa np pc, .slice fa nf fc⟩).keep ((Below.refl _ _).alloc (Nat.le_refl _) _))
 have HR := hid (show CBox W g 30 ⟨⟨0, 0, 0, 0, 0, 0, 0, 0, 0, 0⟩, .slice none 0 0, .slice none 0 0⟩ by rw [hW, hg]; have := CBox.made (w.alloc (.cells #[.int .i64 c.h.f0, .int .i64 c.h.f1, .int .i64 c.h.f2, .int .i64 c.h.f3, .int .i64 c.h.f4, .int .i64 c.h.f5, .int .i64 c.h.pair, .int .i64 c.h.pl, .slice pa np pc, .int .i64 c.h.fn, .int .i64 c.h.fl, .slice fa nf fc] 30)) 30 ⟨⟨0, 0, 0, 0, 0, 0, 0, 0, 0, 0⟩, .slice none 0 0, .slice none 0 0⟩; simpa using this)
 have HL := hid (show Below w.heap.size w W by rw [hW]; exact ((Below.refl _ _).alloc (Nat.le_refl _) _).alloc (by simp) _)
 have HSZ := hid (show W.heap.size = g + 1 ∧ g = w.heap.size + 1 by rw [hW, hg]; exact ⟨by simp, rfl⟩)
 have HP := hid (CoSN.below hp HL.out)
 have HF := hid (CoSN.below hf HL.out)
 have HV := hid (hv.later (M := fun x => N x ∨ x = g) HL.out (fun x h => h.elim .inl fun h => .inr (by rw [h, hg]; omega)))
 have HPN := hid hnp
 have HFN := hid hnf
 have HW := hid hW
 have HG := hid hg
 clear hp hf hnp hnf hW hv hg
 have HN := hid hN
 obtain ⟨z, hz⟩ : ∃ z, z = passC c := ⟨_, rfl⟩
 have HRES : Hid (listsC c l = if z = true ∧ l = 0 then co0 else .mk ⟨l, l, l, l, 0, l, 3, l, if l ≠ 0 then 1 else 0, l⟩ [c] []) := hid (by rw [hz]; rfl)
 have HC := hid (fun w' (h : CoV w' _ c) => rpass_go c (.agg #[.int .i64 c.h.f0, .int .i64 c.h.f1, .int .i64 c.h.f2, .int .i64 c.h.f3, .int .i64 c.h.f4, .int .i64 c.h.f5, .int .i64 c.h.pair, .int .i64 c.h.pl, .slice pa np pc, .int .i64 c.h.fn, .int .i64 c.h.fl, .slice fa nf fc]) w' h)
 rw [← hz] at HC
 clear hN hz
 obtain ⟨x0, x1, x2, x3, x4, x5, x6, x7, x8, x9, x10, x11⟩ := HX.out.cs
 (try dsimp only at x0 x1 x2 x3 x4 x5 x6 x7 x8 x9 x10 x11)
 go_enter Tryd.func54, Tryd.ntmps54
 go_upto_region 1 with fail
 rw [← HW.out]
 clear HW
 go_wp2_with fail
 refine (HC.out W HV.out.cv).mono ?_
 rintro e w2 ⟨rfl, hb⟩
 replace HX := hid (HX.out.keep hb)
 replace HR := hid (HR.out.keep hb)
 replace HV := hid (HV.out.below hb)
 have HS2 := hid hb.size
 replace HL := hid (HL.out.trans (hb.mono HL.out.size))
 clear hb x0 x1 x2 x3 x4 x5 x6 x7 x8 x9 x10 x11
 obtain ⟨x0, x1, x2, x3, x4, x5, x6, x7, x8, x9, x10, x11⟩ := HX.out.cs
 (try dsimp only at x0 x1 x2 x3 x4 x5 x6 x7 x8 x9 x10 x11)
 obtain ⟨r0, r1, r2, r3, r4, r5, r6, r7, r8, r9, r10, r11⟩ := HR.out.cs
 (try dsimp only at r0 r1 r2 r3 r4 r5 r6 r7 r8 r9 r10 r11)
 obtain ⟨fr0, fr1, fr2, fr3, fr4, fr5, fr6, fr7, fr8, fr9, fr10, fr11⟩ := HR.out.frs
 by_cases hzl : z = true ∧ l = 0
 ·
  obtain ⟨rfl, rfl⟩ := hzl
  rw [HG.out] at r0 r1 r2 r3 r4 r5 r6 r7 r8 r9 r10 r11 fr0 fr1 fr2 fr3 fr4 fr5 fr6 fr7 fr8 fr9 fr10 fr11
  go_wp2
  rw [← HG.out]
  have HPOST := hid (show CoPost N (listsC c 0) w (.returned (coV ⟨⟨0, 0, 0, 0, 0, 0, 0, 0, 0, 0⟩, .slice none 0 0, .slice none 0 0⟩)) (set12 (w2) g ⟨⟨0, 0, 0, 0, 0, 0, 0, 0, 0, 0⟩, .slice none 0 0, .slice none 0 0⟩) from by rw [HRES.out, if_pos (by decide)]; exact ⟨⟨_, rfl, co0_v _ _⟩, Below.set12 (g := g) HL.out (by rw [HG.out]; omega)⟩)
  refine ret12 (w2) g ⟨⟨0, 0, 0, 0, 0, 0, 0, 0, 0, 0⟩, .slice none 0 0, .slice none 0 0⟩ (HR.out) HPOST.out (fun wf hb => ?_) rfl
  obtain ⟨z0, z1, z2, z3, z4, z5, z6, z7, z8, z9, z10, z11⟩ := hb.cs
  simp [results, Tryd.results54, go_sem, coV, z0, z1, z2, z3, z4, z5, z6, z7, z8, z9, z10, z11]
 by_cases hl : l = 0
 ·
  subst hl
  have hzf : z = false := by cases z <;> simp_all
  subst hzf
  clear hzl
  go_upto_region 7 with fail
  obtain ⟨W6, hW6⟩ : ∃ x, x = w2.alloc (.cells #[.int .i64 c.h.f0, .int .i64 c.h.f1, .int .i64 c.h.f2, .int .i64 c.h.f3, .int .i64 c.h.f4, .int .i64 c.h.f5, .int .i64 c.h.pair, .int .i64 c.h.pl, .slice pa np pc, .int .i64 c.h.fn, .int .i64 c.h.fl, .slice fa nf fc] 30) := ⟨_, rfl⟩
  obtain ⟨W7, hW7⟩ : ∃ x, x = (w2.alloc (.cells #[.int .i64 c.h.f0, .int .i64 c.h.f1, .int .i64 c.h.f2, .int .i64 c.h.f3, .int .i64 c.h.f4, .int .i64 c.h.f5, .int .i64 c.h.pair, .int .i64 c.h.pl, .slice pa np pc, .int .i64 c.h.fn, .int .i64 c.h.fl, .slice fa nf fc] 30)).alloc (.cells #[.int .i64 0, .int .i64 0, .int .i64 0, .int .i64 0, .int .i64 0, .int .i64 0, .int .i64 3, .int .i64 0, .slice (some ⟨w2.heap.size, 0, none⟩) 1 1, .int .i64 0, .int .i64 0, .slice none 0 0] 30) := ⟨_, rfl⟩
  rw [← hW7]
  have hgs : g < w2.heap.size := HR.out.lt
  have hb6 : Below w2.heap.size w2 W6 := by rw [hW6]; exact (Below.refl _ _).alloc (Nat.le_refl _) _
  have hb67 : Below W6.heap.size W6 W7 := by rw [hW7, ← hW6]; exact (Below.refl _ _).alloc (Nat.le_refl _) _
  have hb7 : Below w2.heap.size w2 W7 := hb6.trans (hb67.mono hb6.size)
  have HT := hid (show CBox W7 (w2.heap.size + 1) 30 ⟨⟨0, 0, 0, 0, 0, 0, 3, 0, 0, 0⟩, .slice (some ⟨w2.heap.size, 0, none⟩) 1 1, .slice none 0 0⟩ by rw [hW7]; have h := CBox.made (w2.alloc (.cells #[.int .i64 c.h.f0, .int .i64 c.h.f1, .int .i64 c.h.f2, .int .i64 c.h.f3, .int .i64 c.h.f4, .int .i64 c.h.f5, .int .i64 c.h.pair, .int .i64 c.h.pl, .slice pa np pc, .int .i64 c.h.fn, .int .i64 c.h.fl, .slice fa nf fc] 30)) 30 ⟨⟨0, 0, 0, 0, 0, 0, 3, 0, 0, 0⟩, .slice (some ⟨w2.heap.size, 0, none⟩) 1 1, .slice none 0 0⟩; rw [show (w2.alloc (.cells #[.int .i64 c.h.f0, .int .i64 c.h.f1, .int .i64 c.h.f2, .int .i64 c.h.f3, .int .i64 c.h.f4, .int .i64 c.h.f5, .int .i64 c.h.pair, .int .i64 c.h.pl, .slice pa np pc, .int .i64 c.h.fn, .int .i64 c.h.fl, .slice fa nf fc] 30)).heap.size = w2.heap.size + 1 by simp] at h; exact h)
  have h1 := CoS.one (T := 30) (N := fun x => N x ∨ x = g) (fun b hb => hb.elim (fun h => Nat.lt_of_lt_of_le (HN.out b h) HL.out.size) fun h => by rw [h]; exact hgs) HV.out.raw
  have hs : CoS W7 (Lc (fun x => N x ∨ x = g) W7) (.slice (some ⟨w2.heap.size, 0, none⟩) 1 1) [c] := by
   refine CoSN.below (w := W6) ?_ hb67
   rw [hW6]; exact h1
  have HS7 := hid hs
  replace HR := hid (HR.out.keep hb7)
  replace HL := hid (HL.out.trans (hb7.mono HL.out.size))
  clear h1 hs hb6 hb67 hb7 hW6 hW7 hgs r0 r1 r2 r3 r4 r5 r6 r7 r8 r9 r10 r11 fr0 fr1 fr2 fr3 fr4 fr5 fr6 fr7 fr8 fr9 fr10 fr11 x0 x1 x2 x3 x4 x5 x6 x7 x8 x9 x10 x11
  obtain ⟨t0, t1, t2, t3, t4, t5, t6, t7, t8, t9, t10, t11⟩ := HT.out.cs
  (try dsimp only at t0 t1 t2 t3 t4 t5 t6 t7 t8 t9 t10 t11)
  obtain ⟨r0, r1, r2, r3, r4, r5, r6, r7, r8, r9, r10, r11⟩ := HR.out.cs
  (try dsimp only at r0 r1 r2 r3 r4 r5 r6 r7 r8 r9 r10 r11)
  obtain ⟨fr0, fr1, fr2, fr3, fr4, fr5, fr6, fr7, fr8, fr9, fr10, fr11⟩ := HR.out.frs
  rw [HG.out] at r0 r1 r2 r3 r4 r5 r6 r7 r8 r9 r10 r11 fr0 fr1 fr2 fr3 fr4 fr5 fr6 fr7 fr8 fr9 fr10 fr11
  go_wp2
  rw [← HG.out]
  have HPOST := hid (show CoPost N (listsC c 0) w (.returned (coV ⟨⟨0, 0, 0, 0, 0, 0, 3, 0, 0, 0⟩, .slice (some ⟨w2.heap.size, 0, none⟩) 1 1, .slice none 0 0⟩)) (set12 (W7) g ⟨⟨0, 0, 0, 0, 0, 0, 3, 0, 0, 0⟩, .slice (some ⟨w2.heap.size, 0, none⟩) 1 1, .slice none 0 0⟩) from by rw [HRES.out, if_neg (by simp), if_neg (by simp)]; exact ⟨⟨_, rfl, (CoVN.set12 (g := g) (CoVN.mk (h := ⟨0, 0, 0, 0, 0, 0, 3, 0, 0, 0⟩) HS7.out (.mkNil _ _)) (.inr rfl)).mono fun _ _ h => .inl h⟩, Below.set12 (g := g) HL.out (by rw [HG.out]; omega)⟩)
  refine ret12 (W7) g ⟨⟨0, 0, 0, 0, 0, 0, 3, 0, 0, 0⟩, .slice (some ⟨w2.heap.size, 0, none⟩) 1 1, .slice none 0 0⟩ (HR.out) HPOST.out (fun wf hb => ?_) rfl
  obtain ⟨z0, z1, z2, z3, z4, z5, z6, z7, z8, z9, z10, z11⟩ := hb.cs
  simp [results, Tryd.results54, go_sem, coV, z0, z1, z2, z3, z4, z5, z6, z7, z8, z9, z10, z11]
 ·
  have hb0 : decide (l = 0) = false := decide_eq_false hl
  have HZL := hid hzl
  have HLN := hid hl
  clear hzl
  have HRES2 : Hid (listsC c l = .mk ⟨l, l, l, l, 0, l, 3, l, 1, l⟩ [c] []) := hid (by rw [HRES.out, if_neg HZL.out, if_pos HLN.out])
  cases z
  ·
   go_upto_region 7 with fail
   obtain ⟨W6, hW6⟩ : ∃ x, x = w2.alloc (.cells #[.int .i64 c.h.f0, .int .i64 c.h.f1, .int .i64 c.h.f2, .int .i64 c.h.f3, .int .i64 c.h.f4, .int .i64 c.h.f5, .int .i64 c.h.pair, .int .i64 c.h.pl, .slice pa np pc, .int .i64 c.h.fn, .int .i64 c.h.fl, .slice fa nf fc] 30) := ⟨_, rfl⟩
   obtain ⟨W7, hW7⟩ : ∃ x, x = (w2.alloc (.cells #[.int .i64 c.h.f0, .int .i64 c.h.f1, .int .i64 c.h.f2, .int .i64 c.h.f3, .int .i64 c.h.f4, .int .i64 c.h.f5, .int .i64 c.h.pair, .int .i64 c.h.pl, .slice pa np pc, .int .i64 c.h.fn, .int .i64 c.h.fl, .slice fa nf fc] 30)).alloc (.cells #[.int .i64 l, .int .i64 l, .int .i64 l, .int .i64 l, .int .i64 0, .int .i64 l, .int .i64 3, .int .i64 l, .slice (some ⟨w2.heap.size, 0, none⟩) 1 1, .int .i64 1, .int .i64 l, .slice none 0 0] 30) := ⟨_, rfl⟩
   rw [← hW7]
   have hgs : g < w2.heap.size := HR.out.lt
   have hb6 : Below w2.heap.size w2 W6 := by rw [hW6]; exact (Below.refl _ _).alloc (Nat.le_refl _) _
   have hb67 : Below W6.heap.size W6 W7 := by rw [hW7, ← hW6]; exact (Below.refl _ _).alloc (Nat.le_refl _) _
   have hb7 : Below w2.heap.size w2 W7 := hb6.trans (hb67.mono hb6.size)
   have HT := hid (show CBox W7 (w2.heap.size + 1) 30 ⟨⟨l, l, l, l, 0, l, 3, l, 1, l⟩, .slice (some ⟨w2.heap.size, 0, none⟩) 1 1, .slice none 0 0⟩ by rw [hW7]; have h := CBox.made (w2.alloc (.cells #[.int .i64 c.h.f0, .int .i64 c.h.f1, .int .i64 c.h.f2, .int .i64 c.h.f3, .int .i64 c.h.f4, .int .i64 c.h.f5, .int .i64 c.h.pair, .int .i64 c.h.pl, .slice pa np pc, .int .i64 c.h.fn, .int .i64 c.h.fl, .slice fa nf fc] 30)) 30 ⟨⟨l, l, l, l, 0, l, 3, l, 1, l⟩, .slice (some ⟨w2.heap.size, 0, none⟩) 1 1, .slice none 0 0⟩; rw [show (w2.alloc (.cells #[.int .i64 c.h.f0, .int .i64 c.h.f1, .int .i64 c.h.f2, .int .i64 c.h.f3, .int .i64 c.h.f4, .int .i64 c.h.f5, .int .i64 c.h.pair, .int .i64 c.h.pl, .slice pa np pc, .int .i64 c.h.fn, .int .i64 c.h.fl, .slice fa nf fc] 30)).heap.size = w2.heap.size + 1 by simp] at h; exact h)
   have h1 := CoS.one (T := 30) (N := fun x => N x ∨ x = g) (fun b hb => hb.elim (fun h => Nat.lt_of_lt_of_le (HN.out b h) HL.out.size) fun h => by rw [h]; exact hgs) HV.out.raw
   have hs : CoS W7 (Lc (fun x => N x ∨ x = g) W7) (.slice (some ⟨w2.heap.size, 0, none⟩) 1 1) [c] := by
    refine CoSN.below (w := W6) ?_ hb67
    rw [hW6]; exact h1
   have HS7 := hid hs
   replace HR := hid (HR.out.keep hb7)
   replace HL := hid (HL.out.trans (hb7.mono HL.out.size))
   clear h1 hs hb6 hb67 hb7 hW6 hW7 hgs r0 r1 r2 r3 r4 r5 r6 r7 r8 r9 r10 r11 fr0 fr1 fr2 fr3 fr4 fr5 fr6 fr7 fr8 fr9 fr10 fr11 x0 x1 x2 x3 x4 x5 x6 x7 x8 x9 x10 x11
   obtain ⟨t0, t1, t2, t3, t4, t5, t6, t7, t8, t9, t10, t11⟩ := HT.out.cs
   (try dsimp only at t0 t1 t2 t3 t4 t5 t6 t7 t8 t9 t10 t11)
   obtain ⟨r0, r1, r2, r3, r4, r5, r6, r7, r8, r9, r10, r11⟩ := HR.out.cs
   (try dsimp only at r0 r1 r2 r3 r4 r5 r6 r7 r8 r9 r10 r11)
   obtain ⟨fr0, fr1, fr2, fr3, fr4, fr5, fr6, fr7, fr8, fr9, fr10, fr11⟩ := HR.out.frs
   rw [HG.out] at r0 r1 r2 r3 r4 r5 r6 r7 r8 r9 r10 r11 fr0 fr1 fr2 fr3 fr4 fr5 fr6 fr7 fr8 fr9 fr10 fr11
   go_wp2
   rw [← HG.out]
   have HPOST := hid (show CoPost N (listsC c l) w (.returned (coV ⟨⟨l, l, l, l, 0, l, 3, l, 1, l⟩, .slice (some ⟨w2.heap.size, 0, none⟩) 1 1, .slice none 0 0⟩)) (set12 (W7) g ⟨⟨l, l, l, l, 0, l, 3, l, 1, l⟩, .slice (some ⟨w2.heap.size, 0, none⟩) 1 1, .slice none 0 0⟩) from by rw [HRES2.out]; exact ⟨⟨_, rfl, (CoVN.set12 (g := g) (CoVN.mk (h := ⟨l, l, l, l, 0, l, 3, l, 1, l⟩) HS7.out (.mkNil _ _)) (.inr rfl)).mono fun _ _ h => .inl h⟩, Below.set12 (g := g) HL.out (by rw [HG.out]; omega)⟩)
   refine ret12 (W7) g ⟨⟨l, l, l, l, 0, l, 3, l, 1, l⟩, .slice (some ⟨w2.heap.size, 0, none⟩) 1 1, .slice none 0 0⟩ (HR.out) HPOST.out (fun wf hb => ?_) rfl
   obtain ⟨z0, z1, z2, z3, z4, z5, z6, z7, z8, z9, z10, z11⟩ := hb.cs
   simp [results, Tryd.results54, go_sem, coV, z0, z1, z2, z3, z4, z5, z6, z7, z8, z9, z10, z11]
  ·
   go_upto_region 7 with fail
   obtain ⟨W6, hW6⟩ : ∃ x, x = w2.alloc (.cells #[.int .i64 c.h.f0, .int .i64 c.h.f1, .int .i64 c.h.f2, .int .i64 c.h.f3, .int .i64 c.h.f4, .int .i64 c.h.f5, .int .i64 c.h.pair, .int .i64 c.h.pl, .slice pa np pc, .int .i64 c.h.fn, .int .i64 c.h.fl, .slice fa nf fc] 30) := ⟨_, rfl⟩
   obtain ⟨W7, hW7⟩ : ∃ x, x = (w2.alloc (.cells #[.int .i64 c.h.f0, .int .i64 c.h.f1, .int .i64 c.h.f2, .int .i64 c.h.f3, .int .i64 c.h.f4, .int .i64 c.h.f5, .int .i64 c.h.pair, .int .i64 c.h.pl, .slice pa np pc, .int .i64 c.h.fn, .int .i64 c.h.fl, .slice fa nf fc] 30)).alloc (.cells #[.int .i64 l, .int .i64 l, .int .i64 l, .int .i64 l, .int .i64 0, .int .i64 l, .int .i64 3, .int .i64 l, .slice (some ⟨w2.heap.size, 0, none⟩) 1 1, .int .i64 1, .int .i64 l, .slice none 0 0] 30) := ⟨_, rfl⟩
   rw [← hW7]
   have hgs : g < w2.heap.size := HR.out.lt
   have hb6 : Below w2.heap.size w2 W6 := by rw [hW6]; exact (Below.refl _ _).alloc (Nat.le_refl _) _
   have hb67 : Below W6.heap.size W6 W7 := by rw [hW7, ← hW6]; exact (Below.refl _ _).alloc (Nat.le_refl _) _
   have hb7 : Below w2.heap.size w2 W7 := hb6.trans (hb67.mono hb6.size)
   have HT := hid (show CBox W7 (w2.heap.size + 1) 30 ⟨⟨l, l, l, l, 0, l, 3, l, 1, l⟩, .slice (some ⟨w2.heap.size, 0, none⟩) 1 1, .slice none 0 0⟩ by rw [hW7]; have h := CBox.made (w2.alloc (.cells #[.int .i64 c.h.f0, .int .i64 c.h.f1, .int .i64 c.h.f2, .int .i64 c.h.f3, .int .i64 c.h.f4, .int .i64 c.h.f5, .int .i64 c.h.pair, .int .i64 c.h.pl, .slice pa np pc, .int .i64 c.h.fn, .int .i64 c.h.fl, .slice fa nf fc] 30)) 30 ⟨⟨l, l, l, l, 0, l, 3, l, 1, l⟩, .slice (some ⟨w2.heap.size, 0, none⟩) 1 1, .slice none 0 0⟩; rw [show (w2.alloc (.cells #[.int .i64 c.h.f0, .int .i64 c.h.f1, .int .i64 c.h.f2, .int .i64 c.h.f3, .int .i64 c.h.f4, .int .i64 c.h.f5, .int .i64 c.h.pair, .int .i64 c.h.pl, .slice pa np pc, .int .i64 c.h.fn, .int .i64 c.h.fl, .slice fa nf fc] 30)).heap.size = w2.heap.size + 1 by simp] at h; exact h)
   have h1 := CoS.one (T := 30) (N := fun x => N x ∨ x = g) (fun b hb => hb.elim (fun h => Nat.lt_of_lt_of_le (HN.out b h) HL.out.size) fun h => by rw [h]; exact hgs) HV.out.raw
   have hs : CoS W7 (Lc (fun x => N x ∨ x = g) W7) (.slice (some ⟨w2.heap.size, 0, none⟩) 1 1) [c] := by
    refine CoSN.below (w := W6) ?_ hb67
    rw [hW6]; exact h1
   have HS7 := hid hs
   replace HR := hid (HR.out.keep hb7)
   replace HL := hid (HL.out.trans (hb7.mono HL.out.size))
   clear h1 hs hb6 hb67 hb7 hW6 hW7 hgs r0 r1 r2 r3 r4 r5 r6 r7 r8 r9 r10 r11 fr0 fr1 fr2 fr3 fr4 fr5 fr6 fr7 fr8 fr9 fr10 fr11 x0 x1 x2 x3 x4 x5 x6 x7 x8 x9 x10 x11
   obtain ⟨t0, t1, t2, t3, t4, t5, t6, t7, t8, t9, t10, t11⟩ := HT.out.cs
   (try dsimp only at t0 t1 t2 t3 t4 t5 t6 t7 t8 t9 t10 t11)
   obtain ⟨r0, r1, r2, r3, r4, r5, r6, r7, r8, r9, r10, r11⟩ := HR.out.cs
   (try dsimp only at r0 r1 r2 r3 r4 r5 r6 r7 r8 r9 r10 r11)
   obtain ⟨fr0, fr1, fr2, fr3, fr4, fr5, fr6, fr7, fr8, fr9, fr10, fr11⟩ := HR.out.frs
   rw [HG.out] at r0 r1 r2 r3 r4 r5 r6 r7 r8 r9 r10 r11 fr0 fr1 fr2 fr3 fr4 fr5 fr6 fr7 fr8 fr9 fr10 fr11
   go_wp2
   rw [← HG.out]
   have HPOST := hid (show CoPost N (listsC c l) w (.returned (coV ⟨⟨l, l, l, l, 0, l, 3, l, 1, l⟩, .slice (some ⟨w2.heap.size, 0, none⟩) 1 1, .slice none 0 0⟩)) (set12 (W7) g ⟨⟨l, l, l, l, 0, l, 3, l, 1, l⟩, .slice (some ⟨w2.heap.size, 0, none⟩) 1 1, .slice none 0 0⟩) from by rw [HRES2.out]; exact ⟨⟨_, rfl, (CoVN.set12 (g := g) (CoVN.mk (h := ⟨l, l, l, l, 0, l, 3, l, 1, l⟩) HS7.out (.mkNil _ _)) (.inr rfl)).mono fun _ _ h => .inl h⟩, Below.set12 (g := g) HL.out (by rw [HG.out]; omega)⟩)
   refine ret12 (W7) g ⟨⟨l, l, l, l, 0, l, 3, l, 1, l⟩, .slice (some ⟨w2.heap.size, 0, none⟩) 1 1, .slice none 0 0⟩ (HR.out) HPOST.out (fun wf hb => ?_) rfl
   obtain ⟨z0, z1, z2, z3, z4, z5, z6, z7, z8, z9, z10, z11⟩ := hb.cs
   simp [results, Tryd.results54, go_sem, coV, z0, z1, z2, z3, z4, z5, z6, z7, z8, z9, z10, z11]
end Go.Proofs.YtlalnkabfigodaaDoor
