import Derived.Test.YtlalnkabfigodaaDoorCoSa
namespace Go.Proofs.YtlalnkabfigodaaDoor
open Go.RowKit

/-- a whole coercion is stored -/
def set12 (w : World) (g : Nat) (r : RawC) : World := ((((((((((((w.setCell ⟨g, 0, none⟩ (.int .i64 r.h.f0)).setCell ⟨g, 1, none⟩ (.int .i64 r.h.f1)).setCell ⟨g, 2, none⟩ (.int .i64 r.h.f2)).setCell ⟨g, 3, none⟩ (.int .i64 r.h.f3)).setCell ⟨g, 4, none⟩ (.int .i64 r.h.f4)).setCell ⟨g, 5, none⟩ (.int .i64 r.h.f5)).setCell ⟨g, 6, none⟩ (.int .i64 r.h.pair)).setCell ⟨g, 7, none⟩ (.int .i64 r.h.pl)).setCell ⟨g, 8, none⟩ (r.pv)).setCell ⟨g, 9, none⟩ (.int .i64 r.h.fn)).setCell ⟨g, 10, none⟩ (.int .i64 r.h.fl)).setCell ⟨g, 11, none⟩ (r.fv))
section
variable {w w0 : World} {g B : Nat} {T : TypeId} {r r' : RawC}
theorem CBox.set12 (h : CBox w g T r) : CBox (set12 w g r') g T r' := by
  have h12 := ((((((((((((h.s0 (x := r'.h.f0)).s1 (x := r'.h.f1)).s2 (x := r'.h.f2)).s3 (x := r'.h.f3)).s4 (x := r'.h.f4)).s5 (x := r'.h.f5)).s6 (x := r'.h.pair)).s7 (x := r'.h.pl)).s8 (x := r'.pv)).s9 (x := r'.h.fn)).s10 (x := r'.h.fl)).s11 (x := r'.fv))
  exact h12
theorem CBox.other12 {m : Nat} (h : CBox w g T r) (hm : g ≠ m) : CBox (Go.Proofs.YtlalnkabfigodaaDoor.set12 w m r') g T r := ((((((((((((h.other (i := 0) hm).other (i := 1) hm).other (i := 2) hm).other (i := 3) hm).other (i := 4) hm).other (i := 5) hm).other (i := 6) hm).other (i := 7) hm).other (i := 8) hm).other (i := 9) hm).other (i := 10) hm).other (i := 11) hm)
theorem Below.set12 (h : Below B w0 w) (hg : B ≤ g) : Below B w0 (Go.Proofs.YtlalnkabfigodaaDoor.set12 w g r') := ((((((((((((h.setCell (p := ⟨g, 0, none⟩) hg _).setCell (p := ⟨g, 1, none⟩) hg _).setCell (p := ⟨g, 2, none⟩) hg _).setCell (p := ⟨g, 3, none⟩) hg _).setCell (p := ⟨g, 4, none⟩) hg _).setCell (p := ⟨g, 5, none⟩) hg _).setCell (p := ⟨g, 6, none⟩) hg _).setCell (p := ⟨g, 7, none⟩) hg _).setCell (p := ⟨g, 8, none⟩) hg _).setCell (p := ⟨g, 9, none⟩) hg _).setCell (p := ⟨g, 10, none⟩) hg _).setCell (p := ⟨g, 11, none⟩) hg _)
theorem CoVN.set12 {N : Nat → Prop} {v : Value} {c : Co} (h : CoVN N w v c) (hg : N g) : CoVN N (Go.Proofs.YtlalnkabfigodaaDoor.set12 w g r') v c := ((((((((((((h.set ⟨g, 0, none⟩ hg _).set ⟨g, 1, none⟩ hg _).set ⟨g, 2, none⟩ hg _).set ⟨g, 3, none⟩ hg _).set ⟨g, 4, none⟩ hg _).set ⟨g, 5, none⟩ hg _).set ⟨g, 6, none⟩ hg _).set ⟨g, 7, none⟩ hg _).set ⟨g, 8, none⟩ hg _).set ⟨g, 9, none⟩ hg _).set ⟨g, 10, none⟩ hg _).set ⟨g, 11, none⟩ hg _)
theorem CoSN.set12 {N : Nat → Prop} {v : Value} {l : List Co} (h : CoS w (Lc N w) v l) (hg : N g) : CoS (Go.Proofs.YtlalnkabfigodaaDoor.set12 w g r') (Lc N (Go.Proofs.YtlalnkabfigodaaDoor.set12 w g r')) v l :=
  (CoSN.set (CoSN.set (CoSN.set (CoSN.set (CoSN.set (CoSN.set (CoSN.set (CoSN.set (CoSN.set (CoSN.set (CoSN.set (CoSN.set h ⟨g, 0, none⟩ hg _) ⟨g, 1, none⟩ hg _) ⟨g, 2, none⟩ hg _) ⟨g, 3, none⟩ hg _) ⟨g, 4, none⟩ hg _) ⟨g, 5, none⟩ hg _) ⟨g, 6, none⟩ hg _) ⟨g, 7, none⟩ hg _) ⟨g, 8, none⟩ hg _) ⟨g, 9, none⟩ hg _) ⟨g, 10, none⟩ hg _) ⟨g, 11, none⟩ hg _)
end
/-- a slice of one coercion -/
theorem CoS.one {N : Nat → Prop} {W0 : World} {T : TypeId} {r : RawC} {c : Co} (hN : ∀ b, N b → b < W0.heap.size) (h : RawCo W0 (Lc N W0) r c) : CoS (W0.alloc (.cells #[.int .i64 r.h.f0, .int .i64 r.h.f1, .int .i64 r.h.f2, .int .i64 r.h.f3, .int .i64 r.h.f4, .int .i64 r.h.f5, .int .i64 r.h.pair, .int .i64 r.h.pl, r.pv, .int .i64 r.h.fn, .int .i64 r.h.fl, r.fv] T)) (Lc N (W0.alloc (.cells #[.int .i64 r.h.f0, .int .i64 r.h.f1, .int .i64 r.h.f2, .int .i64 r.h.f3, .int .i64 r.h.f4, .int .i64 r.h.f5, .int .i64 r.h.pair, .int .i64 r.h.pl, r.pv, .int .i64 r.h.fn, .int .i64 r.h.fl, r.fv] T))) (.slice (some ⟨W0.heap.size, 0, none⟩) 1 1) [c] := by
  have hb : CBox (W0.alloc (.cells #[.int .i64 r.h.f0, .int .i64 r.h.f1, .int .i64 r.h.f2, .int .i64 r.h.f3, .int .i64 r.h.f4, .int .i64 r.h.f5, .int .i64 r.h.pair, .int .i64 r.h.pl, r.pv, .int .i64 r.h.fn, .int .i64 r.h.fl, r.fv] T)) W0.heap.size T r := CBox.made _ _ _
  refine CoS.mk (l := [c]) (rs := [r]) ⟨hb.lt, fun h => Nat.lt_irrefl _ (hN _ h)⟩ (by unfold maxLen; simp) (fun j hj => ?_) ⟨rfl, fun j hj => ?_⟩ (Nat.le_refl _)
  · have h0 : j = 0 := by simpa using hj
    subst h0
    intro i _
    rw [Nat.zero_mul, Nat.zero_add]
    exact hb.c i
  · have h0 : j = 0 := by simpa using hj
    subst h0
    have hbl : Below W0.heap.size W0 (W0.alloc (.cells #[.int .i64 r.h.f0, .int .i64 r.h.f1, .int .i64 r.h.f2, .int .i64 r.h.f3, .int .i64 r.h.f4, .int .i64 r.h.f5, .int .i64 r.h.pair, .int .i64 r.h.pl, r.pv, .int .i64 r.h.fn, .int .i64 r.h.fl, r.fv] T)) := (Below.refl _ _).alloc (Nat.le_refl _) _
    exact h.mono (fun b h => ⟨Nat.lt_of_lt_of_le h.1 hbl.size, h.2⟩) fun _ _ h => hbl.cell (p := ⟨_, _, none⟩) h.1
theorem CoVN.raw {N : Nat → Prop} {w : World} {h : Hd} {pv fv : Value} {c : Co} (hv : CoVN N w (.agg #[.int .i64 h.f0, .int .i64 h.f1, .int .i64 h.f2, .int .i64 h.f3, .int .i64 h.f4, .int .i64 h.f5, .int .i64 h.pair, .int .i64 h.pl, pv, .int .i64 h.fn, .int .i64 h.fl, fv]) c) : RawCo w (Lc N w) ⟨h, pv, fv⟩ c := by
  obtain ⟨⟨⟨g0, g1, g2, g3, g4, g5, g6, g7, g8, g9⟩, pv', fv'⟩, e, hr⟩ := hv
  obtain ⟨h0, h1, h2, h3, h4, h5, h6, h7, h8, h9⟩ := h
  simp only [coV, Value.agg.injEq, Array.mk.injEq, List.cons.injEq, Value.int.injEq, true_and, and_true] at e
  obtain ⟨rfl, rfl, rfl, rfl, rfl, rfl, rfl, rfl, rfl, rfl, rfl, rfl⟩ := e
  exact hr

set_option maxRecDepth 100000 in
set_option maxHeartbeats 8000000 in
theorem rlists_go (N : Nat → Prop) (c : Co) (l : Int) (v : Value) (w : World) (hN : ∀ b, N b → b < w.heap.size) (hv : CoVN N w v c) : Calls Tryd.prog 54 #[v, .int .i64 l] w (CoPost N (listsC c l) w) := by
  obtain ⟨pa, pc, fa, fc, rfl, hp, hf⟩ := hv.form
  obtain ⟨np, hnp⟩ : ∃ n, n = c.pairs.length := ⟨_, rfl⟩
  obtain ⟨nf, hnf⟩ : ∃ n, n = c.funs.length := ⟨_, rfl⟩
  rw [← hnp] at hp hv ⊢
  rw [← hnf] at hf hv ⊢
  have bp : (np : Int) ≤ 9223372036854775807 := by have := hp.len; rw [← hnp] at this; unfold maxLen at this; omega
  have bf : (nf : Int) ≤ 9223372036854775807 := by have := hf.len; rw [← hnf] at this; unfold maxLen at this; omega
  obtain ⟨W, hW⟩ : ∃ W, W = (w.alloc (.cells #[.int .i64 c.h.f0, .int .i64 c.h.f1, .int .i64 c.h.f2, .int .i64 c.h.f3, .int .i64 c.h.f4, .int .i64 c.h.f5, .int .i64 c.h.pair, .int .i64 c.h.pl, .slice pa np pc, .int .i64 c.h.fn, .int .i64 c.h.fl, .slice fa nf fc] 30)).alloc (.cells #[.int .i64 0, .int .i64 0, .int .i64 0, .int .i64 0, .int .i64 0, .int .i64 0, .int .i64 0, .int .i64 0, .slice none 0 0, .int .i64 0, .int .i64 0, .slice none 0 0] 30) := ⟨_, rfl⟩
  obtain ⟨g, hg⟩ : ∃ g, g = w.heap.size + 1 := ⟨_, rfl⟩
  have HX := Lib.hid (show CBox W w.heap.size 30 ⟨c.h, .slice pa np pc, .slice fa nf fc⟩ by rw [hW]; exact (CBox.made _ _ ⟨c.h, .slice pa np pc, .slice fa nf fc⟩).keep ((Below.refl _ _).alloc (Nat.le_refl _) _))
  have HR := Lib.hid (show CBox W g 30 ⟨⟨0, 0, 0, 0, 0, 0, 0, 0, 0, 0⟩, .slice none 0 0, .slice none 0 0⟩ by rw [hW, hg]; have := CBox.made (w.alloc (.cells #[.int .i64 c.h.f0, .int .i64 c.h.f1, .int .i64 c.h.f2, .int .i64 c.h.f3, .int .i64 c.h.f4, .int .i64 c.h.f5, .int .i64 c.h.pair, .int .i64 c.h.pl, .slice pa np pc, .int .i64 c.h.fn, .int .i64 c.h.fl, .slice fa nf fc] 30)) 30 ⟨⟨0, 0, 0, 0, 0, 0, 0, 0, 0, 0⟩, .slice none 0 0, .slice none 0 0⟩; simpa using this)
  have HL := Lib.hid (show Below w.heap.size w W by rw [hW]; exact ((Below.refl _ _).alloc (Nat.le_refl _) _).alloc (by simp) _)
  have HSZ := Lib.hid (show W.heap.size = g + 1 ∧ g = w.heap.size + 1 by rw [hW, hg]; exact ⟨by simp, rfl⟩)
  have HP := Lib.hid (CoSN.below hp HL.out)
  have HF := Lib.hid (CoSN.below hf HL.out)
  have HV := Lib.hid (hv.later (M := fun x => N x ∨ x = g) HL.out (fun x h => h.elim .inl fun h => .inr (by rw [h, hg]; omega)))
  have HPN := Lib.hid hnp
  have HFN := Lib.hid hnf
  have HW := Lib.hid hW
  have HG := Lib.hid hg
  clear hp hf hnp hnf hW hv hg
  have HN := Lib.hid hN
  obtain ⟨z, hz⟩ : ∃ z, z = passC c := ⟨_, rfl⟩
  have HRES : Hid (listsC c l = if z = true ∧ l = 0 then co0 else .mk ⟨l, l, l, l, 0, l, 3, l, if l ≠ 0 then 1 else 0, l⟩ [c] []) := Lib.hid (by rw [hz]; rfl)
  have HC := Lib.hid (fun w' (h : CoV w' _ c) => rpass_go c (.agg #[.int .i64 c.h.f0, .int .i64 c.h.f1, .int .i64 c.h.f2, .int .i64 c.h.f3, .int .i64 c.h.f4, .int .i64 c.h.f5, .int .i64 c.h.pair, .int .i64 c.h.pl, .slice pa np pc, .int .i64 c.h.fn, .int .i64 c.h.fl, .slice fa nf fc]) w' h)
  rw [← hz] at HC
  clear hN hz
  have x0 : W.cell? ⟨w.heap.size, 0, none⟩ = some (.int .i64 c.h.f0) := HX.out.c0
  have x1 : W.cell? ⟨w.heap.size, 1, none⟩ = some (.int .i64 c.h.f1) := HX.out.c1
  have x2 : W.cell? ⟨w.heap.size, 2, none⟩ = some (.int .i64 c.h.f2) := HX.out.c2
  have x3 : W.cell? ⟨w.heap.size, 3, none⟩ = some (.int .i64 c.h.f3) := HX.out.c3
  have x4 : W.cell? ⟨w.heap.size, 4, none⟩ = some (.int .i64 c.h.f4) := HX.out.c4
  have x5 : W.cell? ⟨w.heap.size, 5, none⟩ = some (.int .i64 c.h.f5) := HX.out.c5
  have x6 : W.cell? ⟨w.heap.size, 6, none⟩ = some (.int .i64 c.h.pair) := HX.out.c6
  have x7 : W.cell? ⟨w.heap.size, 7, none⟩ = some (.int .i64 c.h.pl) := HX.out.c7
  have x8 : W.cell? ⟨w.heap.size, 8, none⟩ = some (.slice pa np pc) := HX.out.c8
  have x9 : W.cell? ⟨w.heap.size, 9, none⟩ = some (.int .i64 c.h.fn) := HX.out.c9
  have x10 : W.cell? ⟨w.heap.size, 10, none⟩ = some (.int .i64 c.h.fl) := HX.out.c10
  have x11 : W.cell? ⟨w.heap.size, 11, none⟩ = some (.slice fa nf fc) := HX.out.c11
  go_enter Tryd.func54, Tryd.ntmps54
  go_upto_region 1 with fail
  rw [← HW.out]
  clear HW
  go_wp2_with fail
  refine (HC.out W HV.out.cv).mono ?_
  rintro e w2 ⟨rfl, hb⟩
  replace HX := Lib.hid (HX.out.keep hb)
  replace HR := Lib.hid (HR.out.keep hb)
  replace HV := Lib.hid (HV.out.below hb)
  have HS2 := Lib.hid hb.size
  replace HL := Lib.hid (HL.out.trans (hb.mono HL.out.size))
  clear hb x0 x1 x2 x3 x4 x5 x6 x7 x8 x9 x10 x11
  have x0 : w2.cell? ⟨w.heap.size, 0, none⟩ = some (.int .i64 c.h.f0) := HX.out.c0
  have x1 : w2.cell? ⟨w.heap.size, 1, none⟩ = some (.int .i64 c.h.f1) := HX.out.c1
  have x2 : w2.cell? ⟨w.heap.size, 2, none⟩ = some (.int .i64 c.h.f2) := HX.out.c2
  have x3 : w2.cell? ⟨w.heap.size, 3, none⟩ = some (.int .i64 c.h.f3) := HX.out.c3
  have x4 : w2.cell? ⟨w.heap.size, 4, none⟩ = some (.int .i64 c.h.f4) := HX.out.c4
  have x5 : w2.cell? ⟨w.heap.size, 5, none⟩ = some (.int .i64 c.h.f5) := HX.out.c5
  have x6 : w2.cell? ⟨w.heap.size, 6, none⟩ = some (.int .i64 c.h.pair) := HX.out.c6
  have x7 : w2.cell? ⟨w.heap.size, 7, none⟩ = some (.int .i64 c.h.pl) := HX.out.c7
  have x8 : w2.cell? ⟨w.heap.size, 8, none⟩ = some (.slice pa np pc) := HX.out.c8
  have x9 : w2.cell? ⟨w.heap.size, 9, none⟩ = some (.int .i64 c.h.fn) := HX.out.c9
  have x10 : w2.cell? ⟨w.heap.size, 10, none⟩ = some (.int .i64 c.h.fl) := HX.out.c10
  have x11 : w2.cell? ⟨w.heap.size, 11, none⟩ = some (.slice fa nf fc) := HX.out.c11
  have r0 : w2.cell? ⟨g, 0, none⟩ = some (.int .i64 0) := HR.out.c0
  have r1 : w2.cell? ⟨g, 1, none⟩ = some (.int .i64 0) := HR.out.c1
  have r2 : w2.cell? ⟨g, 2, none⟩ = some (.int .i64 0) := HR.out.c2
  have r3 : w2.cell? ⟨g, 3, none⟩ = some (.int .i64 0) := HR.out.c3
  have r4 : w2.cell? ⟨g, 4, none⟩ = some (.int .i64 0) := HR.out.c4
  have r5 : w2.cell? ⟨g, 5, none⟩ = some (.int .i64 0) := HR.out.c5
  have r6 : w2.cell? ⟨g, 6, none⟩ = some (.int .i64 0) := HR.out.c6
  have r7 : w2.cell? ⟨g, 7, none⟩ = some (.int .i64 0) := HR.out.c7
  have r8 : w2.cell? ⟨g, 8, none⟩ = some (.slice none 0 0) := HR.out.c8
  have r9 : w2.cell? ⟨g, 9, none⟩ = some (.int .i64 0) := HR.out.c9
  have r10 : w2.cell? ⟨g, 10, none⟩ = some (.int .i64 0) := HR.out.c10
  have r11 : w2.cell? ⟨g, 11, none⟩ = some (.slice none 0 0) := HR.out.c11
  have fr0 : w2.frozen? ⟨g, 0, none⟩ = false := HR.out.fr 0
  have fr1 : w2.frozen? ⟨g, 1, none⟩ = false := HR.out.fr 1
  have fr2 : w2.frozen? ⟨g, 2, none⟩ = false := HR.out.fr 2
  have fr3 : w2.frozen? ⟨g, 3, none⟩ = false := HR.out.fr 3
  have fr4 : w2.frozen? ⟨g, 4, none⟩ = false := HR.out.fr 4
  have fr5 : w2.frozen? ⟨g, 5, none⟩ = false := HR.out.fr 5
  have fr6 : w2.frozen? ⟨g, 6, none⟩ = false := HR.out.fr 6
  have fr7 : w2.frozen? ⟨g, 7, none⟩ = false := HR.out.fr 7
  have fr8 : w2.frozen? ⟨g, 8, none⟩ = false := HR.out.fr 8
  have fr9 : w2.frozen? ⟨g, 9, none⟩ = false := HR.out.fr 9
  have fr10 : w2.frozen? ⟨g, 10, none⟩ = false := HR.out.fr 10
  have fr11 : w2.frozen? ⟨g, 11, none⟩ = false := HR.out.fr 11
  by_cases hzl : z = true ∧ l = 0
  · obtain ⟨rfl, rfl⟩ := hzl
    rw [HG.out] at r0 r1 r2 r3 r4 r5 r6 r7 r8 r9 r10 r11 fr0 fr1 fr2 fr3 fr4 fr5 fr6 fr7 fr8 fr9 fr10 fr11
    go_wp2
    rw [← HG.out]
    have HBF := Lib.hid (show CBox (set12 (w2) g ⟨⟨0, 0, 0, 0, 0, 0, 0, 0, 0, 0⟩, .slice none 0 0, .slice none 0 0⟩) g 30 ⟨⟨0, 0, 0, 0, 0, 0, 0, 0, 0, 0⟩, .slice none 0 0, .slice none 0 0⟩ from CBox.set12 (HR.out))
    have HPOST := Lib.hid (show CoPost N (listsC c 0) w (.returned (.agg #[.int .i64 0, .int .i64 0, .int .i64 0, .int .i64 0, .int .i64 0, .int .i64 0, .int .i64 0, .int .i64 0, .slice none 0 0, .int .i64 0, .int .i64 0, .slice none 0 0])) (set12 (w2) g ⟨⟨0, 0, 0, 0, 0, 0, 0, 0, 0, 0⟩, .slice none 0 0, .slice none 0 0⟩) from by rw [HRES.out, if_pos (by decide)]; exact ⟨⟨_, rfl, co0_v _ _⟩, Below.set12 (g := g) HL.out (by rw [HG.out]; omega)⟩)
    change bodyPost _ _ _ _ _ (set12 (w2) g ⟨⟨0, 0, 0, 0, 0, 0, 0, 0, 0, 0⟩, .slice none 0 0, .slice none 0 0⟩)
    generalize set12 (w2) g ⟨⟨0, 0, 0, 0, 0, 0, 0, 0, 0, 0⟩, .slice none 0 0, .slice none 0 0⟩ = wf at HBF HPOST ⊢
    have z0 := HBF.out.c0; have z1 := HBF.out.c1; have z2 := HBF.out.c2; have z3 := HBF.out.c3; have z4 := HBF.out.c4; have z5 := HBF.out.c5; have z6 := HBF.out.c6; have z7 := HBF.out.c7; have z8 := HBF.out.c8; have z9 := HBF.out.c9; have z10 := HBF.out.c10; have z11 := HBF.out.c11
    clear HBF
    refine bodyPost_ret (v := .agg #[.int .i64 0, .int .i64 0, .int .i64 0, .int .i64 0, .int .i64 0, .int .i64 0, .int .i64 0, .int .i64 0, .slice none 0 0, .int .i64 0, .int .i64 0, .slice none 0 0]) ?_ ?_ ?_
    · simp [results, Tryd.results54, go_sem, z0, z1, z2, z3, z4, z5, z6, z7, z8, z9, z10, z11]
    · rfl
    · exact HPOST.out
  by_cases hl : l = 0
  · subst hl
    have hzf : z = false := by cases z <;> simp_all
    subst hzf
    clear hzl
    go_upto_region 7 with fail
    obtain ⟨W6, hW6⟩ : ∃ x, x = w2.alloc (.cells #[.int .i64 c.h.f0, .int .i64 c.h.f1, .int .i64 c.h.f2, .int .i64 c.h.f3, .int .i64 c.h.f4, .int .i64 c.h.f5, .int .i64 c.h.pair, .int .i64 c.h.pl, .slice pa np pc, .int .i64 c.h.fn, .int .i64 c.h.fl, .slice fa nf fc] 30) := ⟨_, rfl⟩
    obtain ⟨W7, hW7⟩ : ∃ x, x = (w2.alloc (.cells #[.int .i64 c.h.f0, .int .i64 c.h.f1, .int .i64 c.h.f2, .int .i64 c.h.f3, .int .i64 c.h.f4, .int .i64 c.h.f5, .int .i64 c.h.pair, .int .i64 c.h.pl, .slice pa np pc, .int .i64 c.h.fn, .int .i64 c.h.fl, .slice fa nf fc] 30)).alloc (.cells #[.int .i64 0, .int .i64 0, .int .i64 0, .int .i64 0, .int .i64 0, .int .i64 0, .int .i64 3, .int .i64 0, .slice (some ⟨w2.heap.size, 0, none⟩) 1 1, .int .i64 0, .int .i64 0, .slice none 0 0] 30) := ⟨_, rfl⟩
    rw [← hW7]
    have hgs : g < w2.heap.size := HR.out.lt
    have hb6 : Below w2.heap.size w2 W6 := by rw [hW6]; exact (Below.refl _ _).alloc (Nat.le_refl _) _
    have hb67 : Below W6.heap.size W6 W7 := by rw [hW7, ← hW6]; exact (Below.refl _ _).alloc (Nat.le_refl _) _
    have hb7 : Below w2.heap.size w2 W7 := hb6.trans (hb67.mono hb6.size)
    have HT := Lib.hid (show CBox W7 (w2.heap.size + 1) 30 ⟨⟨0, 0, 0, 0, 0, 0, 3, 0, 0, 0⟩, .slice (some ⟨w2.heap.size, 0, none⟩) 1 1, .slice none 0 0⟩ by rw [hW7]; have h := CBox.made (w2.alloc (.cells #[.int .i64 c.h.f0, .int .i64 c.h.f1, .int .i64 c.h.f2, .int .i64 c.h.f3, .int .i64 c.h.f4, .int .i64 c.h.f5, .int .i64 c.h.pair, .int .i64 c.h.pl, .slice pa np pc, .int .i64 c.h.fn, .int .i64 c.h.fl, .slice fa nf fc] 30)) 30 ⟨⟨0, 0, 0, 0, 0, 0, 3, 0, 0, 0⟩, .slice (some ⟨w2.heap.size, 0, none⟩) 1 1, .slice none 0 0⟩; rw [show (w2.alloc (.cells #[.int .i64 c.h.f0, .int .i64 c.h.f1, .int .i64 c.h.f2, .int .i64 c.h.f3, .int .i64 c.h.f4, .int .i64 c.h.f5, .int .i64 c.h.pair, .int .i64 c.h.pl, .slice pa np pc, .int .i64 c.h.fn, .int .i64 c.h.fl, .slice fa nf fc] 30)).heap.size = w2.heap.size + 1 by simp] at h; exact h)
    have h1 := CoS.one (T := 30) (N := fun x => N x ∨ x = g) (fun b hb => hb.elim (fun h => Nat.lt_of_lt_of_le (HN.out b h) HL.out.size) fun h => by rw [h]; exact hgs) HV.out.raw
    have hs : CoS W7 (Lc (fun x => N x ∨ x = g) W7) (.slice (some ⟨w2.heap.size, 0, none⟩) 1 1) [c] := by
      refine CoSN.below (w := W6) ?_ hb67
      rw [hW6]; exact h1
    have HS7 := Lib.hid hs
    replace HR := Lib.hid (HR.out.keep hb7)
    replace HL := Lib.hid (HL.out.trans (hb7.mono HL.out.size))
    clear h1 hs hb6 hb67 hb7 hW6 hW7 hgs r0 r1 r2 r3 r4 r5 r6 r7 r8 r9 r10 r11 fr0 fr1 fr2 fr3 fr4 fr5 fr6 fr7 fr8 fr9 fr10 fr11 x0 x1 x2 x3 x4 x5 x6 x7 x8 x9 x10 x11
    have t0 : W7.cell? ⟨w2.heap.size + 1, 0, none⟩ = some (.int .i64 0) := HT.out.c0
    have t1 : W7.cell? ⟨w2.heap.size + 1, 1, none⟩ = some (.int .i64 0) := HT.out.c1
    have t2 : W7.cell? ⟨w2.heap.size + 1, 2, none⟩ = some (.int .i64 0) := HT.out.c2
    have t3 : W7.cell? ⟨w2.heap.size + 1, 3, none⟩ = some (.int .i64 0) := HT.out.c3
    have t4 : W7.cell? ⟨w2.heap.size + 1, 4, none⟩ = some (.int .i64 0) := HT.out.c4
    have t5 : W7.cell? ⟨w2.heap.size + 1, 5, none⟩ = some (.int .i64 0) := HT.out.c5
    have t6 : W7.cell? ⟨w2.heap.size + 1, 6, none⟩ = some (.int .i64 3) := HT.out.c6
    have t7 : W7.cell? ⟨w2.heap.size + 1, 7, none⟩ = some (.int .i64 0) := HT.out.c7
    have t8 : W7.cell? ⟨w2.heap.size + 1, 8, none⟩ = some (.slice (some ⟨w2.heap.size, 0, none⟩) 1 1) := HT.out.c8
    have t9 : W7.cell? ⟨w2.heap.size + 1, 9, none⟩ = some (.int .i64 0) := HT.out.c9
    have t10 : W7.cell? ⟨w2.heap.size + 1, 10, none⟩ = some (.int .i64 0) := HT.out.c10
    have t11 : W7.cell? ⟨w2.heap.size + 1, 11, none⟩ = some (.slice none 0 0) := HT.out.c11
    have r0 : W7.cell? ⟨g, 0, none⟩ = some (.int .i64 0) := HR.out.c0
    have r1 : W7.cell? ⟨g, 1, none⟩ = some (.int .i64 0) := HR.out.c1
    have r2 : W7.cell? ⟨g, 2, none⟩ = some (.int .i64 0) := HR.out.c2
    have r3 : W7.cell? ⟨g, 3, none⟩ = some (.int .i64 0) := HR.out.c3
    have r4 : W7.cell? ⟨g, 4, none⟩ = some (.int .i64 0) := HR.out.c4
    have r5 : W7.cell? ⟨g, 5, none⟩ = some (.int .i64 0) := HR.out.c5
    have r6 : W7.cell? ⟨g, 6, none⟩ = some (.int .i64 0) := HR.out.c6
    have r7 : W7.cell? ⟨g, 7, none⟩ = some (.int .i64 0) := HR.out.c7
    have r8 : W7.cell? ⟨g, 8, none⟩ = some (.slice none 0 0) := HR.out.c8
    have r9 : W7.cell? ⟨g, 9, none⟩ = some (.int .i64 0) := HR.out.c9
    have r10 : W7.cell? ⟨g, 10, none⟩ = some (.int .i64 0) := HR.out.c10
    have r11 : W7.cell? ⟨g, 11, none⟩ = some (.slice none 0 0) := HR.out.c11
    have fr0 : W7.frozen? ⟨g, 0, none⟩ = false := HR.out.fr 0
    have fr1 : W7.frozen? ⟨g, 1, none⟩ = false := HR.out.fr 1
    have fr2 : W7.frozen? ⟨g, 2, none⟩ = false := HR.out.fr 2
    have fr3 : W7.frozen? ⟨g, 3, none⟩ = false := HR.out.fr 3
    have fr4 : W7.frozen? ⟨g, 4, none⟩ = false := HR.out.fr 4
    have fr5 : W7.frozen? ⟨g, 5, none⟩ = false := HR.out.fr 5
    have fr6 : W7.frozen? ⟨g, 6, none⟩ = false := HR.out.fr 6
    have fr7 : W7.frozen? ⟨g, 7, none⟩ = false := HR.out.fr 7
    have fr8 : W7.frozen? ⟨g, 8, none⟩ = false := HR.out.fr 8
    have fr9 : W7.frozen? ⟨g, 9, none⟩ = false := HR.out.fr 9
    have fr10 : W7.frozen? ⟨g, 10, none⟩ = false := HR.out.fr 10
    have fr11 : W7.frozen? ⟨g, 11, none⟩ = false := HR.out.fr 11
    rw [HG.out] at r0 r1 r2 r3 r4 r5 r6 r7 r8 r9 r10 r11 fr0 fr1 fr2 fr3 fr4 fr5 fr6 fr7 fr8 fr9 fr10 fr11
    go_wp2
    rw [← HG.out]
    have HBF := Lib.hid (show CBox (set12 (W7) g ⟨⟨0, 0, 0, 0, 0, 0, 3, 0, 0, 0⟩, .slice (some ⟨w2.heap.size, 0, none⟩) 1 1, .slice none 0 0⟩) g 30 ⟨⟨0, 0, 0, 0, 0, 0, 3, 0, 0, 0⟩, .slice (some ⟨w2.heap.size, 0, none⟩) 1 1, .slice none 0 0⟩ from CBox.set12 (HR.out))
    have HPOST := Lib.hid (show CoPost N (listsC c 0) w (.returned (.agg #[.int .i64 0, .int .i64 0, .int .i64 0, .int .i64 0, .int .i64 0, .int .i64 0, .int .i64 3, .int .i64 0, .slice (some ⟨w2.heap.size, 0, none⟩) 1 1, .int .i64 0, .int .i64 0, .slice none 0 0])) (set12 (W7) g ⟨⟨0, 0, 0, 0, 0, 0, 3, 0, 0, 0⟩, .slice (some ⟨w2.heap.size, 0, none⟩) 1 1, .slice none 0 0⟩) from by rw [HRES.out, if_neg (by simp), if_neg (by simp)]; exact ⟨⟨_, rfl, (CoVN.set12 (g := g) (CoVN.mk (h := ⟨0, 0, 0, 0, 0, 0, 3, 0, 0, 0⟩) HS7.out (.mkNil _ _)) (.inr rfl)).mono fun _ _ h => .inl h⟩, Below.set12 (g := g) HL.out (by rw [HG.out]; omega)⟩)
    change bodyPost _ _ _ _ _ (set12 (W7) g ⟨⟨0, 0, 0, 0, 0, 0, 3, 0, 0, 0⟩, .slice (some ⟨w2.heap.size, 0, none⟩) 1 1, .slice none 0 0⟩)
    generalize set12 (W7) g ⟨⟨0, 0, 0, 0, 0, 0, 3, 0, 0, 0⟩, .slice (some ⟨w2.heap.size, 0, none⟩) 1 1, .slice none 0 0⟩ = wf at HBF HPOST ⊢
    have z0 := HBF.out.c0; have z1 := HBF.out.c1; have z2 := HBF.out.c2; have z3 := HBF.out.c3; have z4 := HBF.out.c4; have z5 := HBF.out.c5; have z6 := HBF.out.c6; have z7 := HBF.out.c7; have z8 := HBF.out.c8; have z9 := HBF.out.c9; have z10 := HBF.out.c10; have z11 := HBF.out.c11
    clear HBF
    refine bodyPost_ret (v := .agg #[.int .i64 0, .int .i64 0, .int .i64 0, .int .i64 0, .int .i64 0, .int .i64 0, .int .i64 3, .int .i64 0, .slice (some ⟨w2.heap.size, 0, none⟩) 1 1, .int .i64 0, .int .i64 0, .slice none 0 0]) ?_ ?_ ?_
    · simp [results, Tryd.results54, go_sem, z0, z1, z2, z3, z4, z5, z6, z7, z8, z9, z10, z11]
    · rfl
    · exact HPOST.out
  · have hb0 : decide (l = 0) = false := decide_eq_false hl
    have HZL := Lib.hid hzl
    have HLN := Lib.hid hl
    clear hzl
    have HRES2 : Hid (listsC c l = .mk ⟨l, l, l, l, 0, l, 3, l, 1, l⟩ [c] []) := Lib.hid (by rw [HRES.out, if_neg HZL.out, if_pos HLN.out])
    cases z
    · skip
      go_upto_region 7 with fail
      obtain ⟨W6, hW6⟩ : ∃ x, x = w2.alloc (.cells #[.int .i64 c.h.f0, .int .i64 c.h.f1, .int .i64 c.h.f2, .int .i64 c.h.f3, .int .i64 c.h.f4, .int .i64 c.h.f5, .int .i64 c.h.pair, .int .i64 c.h.pl, .slice pa np pc, .int .i64 c.h.fn, .int .i64 c.h.fl, .slice fa nf fc] 30) := ⟨_, rfl⟩
      obtain ⟨W7, hW7⟩ : ∃ x, x = (w2.alloc (.cells #[.int .i64 c.h.f0, .int .i64 c.h.f1, .int .i64 c.h.f2, .int .i64 c.h.f3, .int .i64 c.h.f4, .int .i64 c.h.f5, .int .i64 c.h.pair, .int .i64 c.h.pl, .slice pa np pc, .int .i64 c.h.fn, .int .i64 c.h.fl, .slice fa nf fc] 30)).alloc (.cells #[.int .i64 l, .int .i64 l, .int .i64 l, .int .i64 l, .int .i64 0, .int .i64 l, .int .i64 3, .int .i64 l, .slice (some ⟨w2.heap.size, 0, none⟩) 1 1, .int .i64 1, .int .i64 l, .slice none 0 0] 30) := ⟨_, rfl⟩
      rw [← hW7]
      have hgs : g < w2.heap.size := HR.out.lt
      have hb6 : Below w2.heap.size w2 W6 := by rw [hW6]; exact (Below.refl _ _).alloc (Nat.le_refl _) _
      have hb67 : Below W6.heap.size W6 W7 := by rw [hW7, ← hW6]; exact (Below.refl _ _).alloc (Nat.le_refl _) _
      have hb7 : Below w2.heap.size w2 W7 := hb6.trans (hb67.mono hb6.size)
      have HT := Lib.hid (show CBox W7 (w2.heap.size + 1) 30 ⟨⟨l, l, l, l, 0, l, 3, l, 1, l⟩, .slice (some ⟨w2.heap.size, 0, none⟩) 1 1, .slice none 0 0⟩ by rw [hW7]; have h := CBox.made (w2.alloc (.cells #[.int .i64 c.h.f0, .int .i64 c.h.f1, .int .i64 c.h.f2, .int .i64 c.h.f3, .int .i64 c.h.f4, .int .i64 c.h.f5, .int .i64 c.h.pair, .int .i64 c.h.pl, .slice pa np pc, .int .i64 c.h.fn, .int .i64 c.h.fl, .slice fa nf fc] 30)) 30 ⟨⟨l, l, l, l, 0, l, 3, l, 1, l⟩, .slice (some ⟨w2.heap.size, 0, none⟩) 1 1, .slice none 0 0⟩; rw [show (w2.alloc (.cells #[.int .i64 c.h.f0, .int .i64 c.h.f1, .int .i64 c.h.f2, .int .i64 c.h.f3, .int .i64 c.h.f4, .int .i64 c.h.f5, .int .i64 c.h.pair, .int .i64 c.h.pl, .slice pa np pc, .int .i64 c.h.fn, .int .i64 c.h.fl, .slice fa nf fc] 30)).heap.size = w2.heap.size + 1 by simp] at h; exact h)
      have h1 := CoS.one (T := 30) (N := fun x => N x ∨ x = g) (fun b hb => hb.elim (fun h => Nat.lt_of_lt_of_le (HN.out b h) HL.out.size) fun h => by rw [h]; exact hgs) HV.out.raw
      have hs : CoS W7 (Lc (fun x => N x ∨ x = g) W7) (.slice (some ⟨w2.heap.size, 0, none⟩) 1 1) [c] := by
        refine CoSN.below (w := W6) ?_ hb67
        rw [hW6]; exact h1
      have HS7 := Lib.hid hs
      replace HR := Lib.hid (HR.out.keep hb7)
      replace HL := Lib.hid (HL.out.trans (hb7.mono HL.out.size))
      clear h1 hs hb6 hb67 hb7 hW6 hW7 hgs r0 r1 r2 r3 r4 r5 r6 r7 r8 r9 r10 r11 fr0 fr1 fr2 fr3 fr4 fr5 fr6 fr7 fr8 fr9 fr10 fr11 x0 x1 x2 x3 x4 x5 x6 x7 x8 x9 x10 x11
      have t0 : W7.cell? ⟨w2.heap.size + 1, 0, none⟩ = some (.int .i64 l) := HT.out.c0
      have t1 : W7.cell? ⟨w2.heap.size + 1, 1, none⟩ = some (.int .i64 l) := HT.out.c1
      have t2 : W7.cell? ⟨w2.heap.size + 1, 2, none⟩ = some (.int .i64 l) := HT.out.c2
      have t3 : W7.cell? ⟨w2.heap.size + 1, 3, none⟩ = some (.int .i64 l) := HT.out.c3
      have t4 : W7.cell? ⟨w2.heap.size + 1, 4, none⟩ = some (.int .i64 0) := HT.out.c4
      have t5 : W7.cell? ⟨w2.heap.size + 1, 5, none⟩ = some (.int .i64 l) := HT.out.c5
      have t6 : W7.cell? ⟨w2.heap.size + 1, 6, none⟩ = some (.int .i64 3) := HT.out.c6
      have t7 : W7.cell? ⟨w2.heap.size + 1, 7, none⟩ = some (.int .i64 l) := HT.out.c7
      have t8 : W7.cell? ⟨w2.heap.size + 1, 8, none⟩ = some (.slice (some ⟨w2.heap.size, 0, none⟩) 1 1) := HT.out.c8
      have t9 : W7.cell? ⟨w2.heap.size + 1, 9, none⟩ = some (.int .i64 1) := HT.out.c9
      have t10 : W7.cell? ⟨w2.heap.size + 1, 10, none⟩ = some (.int .i64 l) := HT.out.c10
      have t11 : W7.cell? ⟨w2.heap.size + 1, 11, none⟩ = some (.slice none 0 0) := HT.out.c11
      have r0 : W7.cell? ⟨g, 0, none⟩ = some (.int .i64 0) := HR.out.c0
      have r1 : W7.cell? ⟨g, 1, none⟩ = some (.int .i64 0) := HR.out.c1
      have r2 : W7.cell? ⟨g, 2, none⟩ = some (.int .i64 0) := HR.out.c2
      have r3 : W7.cell? ⟨g, 3, none⟩ = some (.int .i64 0) := HR.out.c3
      have r4 : W7.cell? ⟨g, 4, none⟩ = some (.int .i64 0) := HR.out.c4
      have r5 : W7.cell? ⟨g, 5, none⟩ = some (.int .i64 0) := HR.out.c5
      have r6 : W7.cell? ⟨g, 6, none⟩ = some (.int .i64 0) := HR.out.c6
      have r7 : W7.cell? ⟨g, 7, none⟩ = some (.int .i64 0) := HR.out.c7
      have r8 : W7.cell? ⟨g, 8, none⟩ = some (.slice none 0 0) := HR.out.c8
      have r9 : W7.cell? ⟨g, 9, none⟩ = some (.int .i64 0) := HR.out.c9
      have r10 : W7.cell? ⟨g, 10, none⟩ = some (.int .i64 0) := HR.out.c10
      have r11 : W7.cell? ⟨g, 11, none⟩ = some (.slice none 0 0) := HR.out.c11
      have fr0 : W7.frozen? ⟨g, 0, none⟩ = false := HR.out.fr 0
      have fr1 : W7.frozen? ⟨g, 1, none⟩ = false := HR.out.fr 1
      have fr2 : W7.frozen? ⟨g, 2, none⟩ = false := HR.out.fr 2
      have fr3 : W7.frozen? ⟨g, 3, none⟩ = false := HR.out.fr 3
      have fr4 : W7.frozen? ⟨g, 4, none⟩ = false := HR.out.fr 4
      have fr5 : W7.frozen? ⟨g, 5, none⟩ = false := HR.out.fr 5
      have fr6 : W7.frozen? ⟨g, 6, none⟩ = false := HR.out.fr 6
      have fr7 : W7.frozen? ⟨g, 7, none⟩ = false := HR.out.fr 7
      have fr8 : W7.frozen? ⟨g, 8, none⟩ = false := HR.out.fr 8
      have fr9 : W7.frozen? ⟨g, 9, none⟩ = false := HR.out.fr 9
      have fr10 : W7.frozen? ⟨g, 10, none⟩ = false := HR.out.fr 10
      have fr11 : W7.frozen? ⟨g, 11, none⟩ = false := HR.out.fr 11
      rw [HG.out] at r0 r1 r2 r3 r4 r5 r6 r7 r8 r9 r10 r11 fr0 fr1 fr2 fr3 fr4 fr5 fr6 fr7 fr8 fr9 fr10 fr11
      go_wp2
      rw [← HG.out]
      have HBF := Lib.hid (show CBox (set12 (W7) g ⟨⟨l, l, l, l, 0, l, 3, l, 1, l⟩, .slice (some ⟨w2.heap.size, 0, none⟩) 1 1, .slice none 0 0⟩) g 30 ⟨⟨l, l, l, l, 0, l, 3, l, 1, l⟩, .slice (some ⟨w2.heap.size, 0, none⟩) 1 1, .slice none 0 0⟩ from CBox.set12 (HR.out))
      have HPOST := Lib.hid (show CoPost N (listsC c l) w (.returned (.agg #[.int .i64 l, .int .i64 l, .int .i64 l, .int .i64 l, .int .i64 0, .int .i64 l, .int .i64 3, .int .i64 l, .slice (some ⟨w2.heap.size, 0, none⟩) 1 1, .int .i64 1, .int .i64 l, .slice none 0 0])) (set12 (W7) g ⟨⟨l, l, l, l, 0, l, 3, l, 1, l⟩, .slice (some ⟨w2.heap.size, 0, none⟩) 1 1, .slice none 0 0⟩) from by rw [HRES2.out]; exact ⟨⟨_, rfl, (CoVN.set12 (g := g) (CoVN.mk (h := ⟨l, l, l, l, 0, l, 3, l, 1, l⟩) HS7.out (.mkNil _ _)) (.inr rfl)).mono fun _ _ h => .inl h⟩, Below.set12 (g := g) HL.out (by rw [HG.out]; omega)⟩)
      change bodyPost _ _ _ _ _ (set12 (W7) g ⟨⟨l, l, l, l, 0, l, 3, l, 1, l⟩, .slice (some ⟨w2.heap.size, 0, none⟩) 1 1, .slice none 0 0⟩)
      generalize set12 (W7) g ⟨⟨l, l, l, l, 0, l, 3, l, 1, l⟩, .slice (some ⟨w2.heap.size, 0, none⟩) 1 1, .slice none 0 0⟩ = wf at HBF HPOST ⊢
      have z0 := HBF.out.c0; have z1 := HBF.out.c1; have z2 := HBF.out.c2; have z3 := HBF.out.c3; have z4 := HBF.out.c4; have z5 := HBF.out.c5; have z6 := HBF.out.c6; have z7 := HBF.out.c7; have z8 := HBF.out.c8; have z9 := HBF.out.c9; have z10 := HBF.out.c10; have z11 := HBF.out.c11
      clear HBF
      refine bodyPost_ret (v := .agg #[.int .i64 l, .int .i64 l, .int .i64 l, .int .i64 l, .int .i64 0, .int .i64 l, .int .i64 3, .int .i64 l, .slice (some ⟨w2.heap.size, 0, none⟩) 1 1, .int .i64 1, .int .i64 l, .slice none 0 0]) ?_ ?_ ?_
      · simp [results, Tryd.results54, go_sem, z0, z1, z2, z3, z4, z5, z6, z7, z8, z9, z10, z11]
      · rfl
      · exact HPOST.out
    · skip
      go_upto_region 7 with fail
      obtain ⟨W6, hW6⟩ : ∃ x, x = w2.alloc (.cells #[.int .i64 c.h.f0, .int .i64 c.h.f1, .int .i64 c.h.f2, .int .i64 c.h.f3, .int .i64 c.h.f4, .int .i64 c.h.f5, .int .i64 c.h.pair, .int .i64 c.h.pl, .slice pa np pc, .int .i64 c.h.fn, .int .i64 c.h.fl, .slice fa nf fc] 30) := ⟨_, rfl⟩
      obtain ⟨W7, hW7⟩ : ∃ x, x = (w2.alloc (.cells #[.int .i64 c.h.f0, .int .i64 c.h.f1, .int .i64 c.h.f2, .int .i64 c.h.f3, .int .i64 c.h.f4, .int .i64 c.h.f5, .int .i64 c.h.pair, .int .i64 c.h.pl, .slice pa np pc, .int .i64 c.h.fn, .int .i64 c.h.fl, .slice fa nf fc] 30)).alloc (.cells #[.int .i64 l, .int .i64 l, .int .i64 l, .int .i64 l, .int .i64 0, .int .i64 l, .int .i64 3, .int .i64 l, .slice (some ⟨w2.heap.size, 0, none⟩) 1 1, .int .i64 1, .int .i64 l, .slice none 0 0] 30) := ⟨_, rfl⟩
      rw [← hW7]
      have hgs : g < w2.heap.size := HR.out.lt
      have hb6 : Below w2.heap.size w2 W6 := by rw [hW6]; exact (Below.refl _ _).alloc (Nat.le_refl _) _
      have hb67 : Below W6.heap.size W6 W7 := by rw [hW7, ← hW6]; exact (Below.refl _ _).alloc (Nat.le_refl _) _
      have hb7 : Below w2.heap.size w2 W7 := hb6.trans (hb67.mono hb6.size)
      have HT := Lib.hid (show CBox W7 (w2.heap.size + 1) 30 ⟨⟨l, l, l, l, 0, l, 3, l, 1, l⟩, .slice (some ⟨w2.heap.size, 0, none⟩) 1 1, .slice none 0 0⟩ by rw [hW7]; have h := CBox.made (w2.alloc (.cells #[.int .i64 c.h.f0, .int .i64 c.h.f1, .int .i64 c.h.f2, .int .i64 c.h.f3, .int .i64 c.h.f4, .int .i64 c.h.f5, .int .i64 c.h.pair, .int .i64 c.h.pl, .slice pa np pc, .int .i64 c.h.fn, .int .i64 c.h.fl, .slice fa nf fc] 30)) 30 ⟨⟨l, l, l, l, 0, l, 3, l, 1, l⟩, .slice (some ⟨w2.heap.size, 0, none⟩) 1 1, .slice none 0 0⟩; rw [show (w2.alloc (.cells #[.int .i64 c.h.f0, .int .i64 c.h.f1, .int .i64 c.h.f2, .int .i64 c.h.f3, .int .i64 c.h.f4, .int .i64 c.h.f5, .int .i64 c.h.pair, .int .i64 c.h.pl, .slice pa np pc, .int .i64 c.h.fn, .int .i64 c.h.fl, .slice fa nf fc] 30)).heap.size = w2.heap.size + 1 by simp] at h; exact h)
      have h1 := CoS.one (T := 30) (N := fun x => N x ∨ x = g) (fun b hb => hb.elim (fun h => Nat.lt_of_lt_of_le (HN.out b h) HL.out.size) fun h => by rw [h]; exact hgs) HV.out.raw
      have hs : CoS W7 (Lc (fun x => N x ∨ x = g) W7) (.slice (some ⟨w2.heap.size, 0, none⟩) 1 1) [c] := by
        refine CoSN.below (w := W6) ?_ hb67
        rw [hW6]; exact h1
      have HS7 := Lib.hid hs
      replace HR := Lib.hid (HR.out.keep hb7)
      replace HL := Lib.hid (HL.out.trans (hb7.mono HL.out.size))
      clear h1 hs hb6 hb67 hb7 hW6 hW7 hgs r0 r1 r2 r3 r4 r5 r6 r7 r8 r9 r10 r11 fr0 fr1 fr2 fr3 fr4 fr5 fr6 fr7 fr8 fr9 fr10 fr11 x0 x1 x2 x3 x4 x5 x6 x7 x8 x9 x10 x11
      have t0 : W7.cell? ⟨w2.heap.size + 1, 0, none⟩ = some (.int .i64 l) := HT.out.c0
      have t1 : W7.cell? ⟨w2.heap.size + 1, 1, none⟩ = some (.int .i64 l) := HT.out.c1
      have t2 : W7.cell? ⟨w2.heap.size + 1, 2, none⟩ = some (.int .i64 l) := HT.out.c2
      have t3 : W7.cell? ⟨w2.heap.size + 1, 3, none⟩ = some (.int .i64 l) := HT.out.c3
      have t4 : W7.cell? ⟨w2.heap.size + 1, 4, none⟩ = some (.int .i64 0) := HT.out.c4
      have t5 : W7.cell? ⟨w2.heap.size + 1, 5, none⟩ = some (.int .i64 l) := HT.out.c5
      have t6 : W7.cell? ⟨w2.heap.size + 1, 6, none⟩ = some (.int .i64 3) := HT.out.c6
      have t7 : W7.cell? ⟨w2.heap.size + 1, 7, none⟩ = some (.int .i64 l) := HT.out.c7
      have t8 : W7.cell? ⟨w2.heap.size + 1, 8, none⟩ = some (.slice (some ⟨w2.heap.size, 0, none⟩) 1 1) := HT.out.c8
      have t9 : W7.cell? ⟨w2.heap.size + 1, 9, none⟩ = some (.int .i64 1) := HT.out.c9
      have t10 : W7.cell? ⟨w2.heap.size + 1, 10, none⟩ = some (.int .i64 l) := HT.out.c10
      have t11 : W7.cell? ⟨w2.heap.size + 1, 11, none⟩ = some (.slice none 0 0) := HT.out.c11
      have r0 : W7.cell? ⟨g, 0, none⟩ = some (.int .i64 0) := HR.out.c0
      have r1 : W7.cell? ⟨g, 1, none⟩ = some (.int .i64 0) := HR.out.c1
      have r2 : W7.cell? ⟨g, 2, none⟩ = some (.int .i64 0) := HR.out.c2
      have r3 : W7.cell? ⟨g, 3, none⟩ = some (.int .i64 0) := HR.out.c3
      have r4 : W7.cell? ⟨g, 4, none⟩ = some (.int .i64 0) := HR.out.c4
      have r5 : W7.cell? ⟨g, 5, none⟩ = some (.int .i64 0) := HR.out.c5
      have r6 : W7.cell? ⟨g, 6, none⟩ = some (.int .i64 0) := HR.out.c6
      have r7 : W7.cell? ⟨g, 7, none⟩ = some (.int .i64 0) := HR.out.c7
      have r8 : W7.cell? ⟨g, 8, none⟩ = some (.slice none 0 0) := HR.out.c8
      have r9 : W7.cell? ⟨g, 9, none⟩ = some (.int .i64 0) := HR.out.c9
      have r10 : W7.cell? ⟨g, 10, none⟩ = some (.int .i64 0) := HR.out.c10
      have r11 : W7.cell? ⟨g, 11, none⟩ = some (.slice none 0 0) := HR.out.c11
      have fr0 : W7.frozen? ⟨g, 0, none⟩ = false := HR.out.fr 0
      have fr1 : W7.frozen? ⟨g, 1, none⟩ = false := HR.out.fr 1
      have fr2 : W7.frozen? ⟨g, 2, none⟩ = false := HR.out.fr 2
      have fr3 : W7.frozen? ⟨g, 3, none⟩ = false := HR.out.fr 3
      have fr4 : W7.frozen? ⟨g, 4, none⟩ = false := HR.out.fr 4
      have fr5 : W7.frozen? ⟨g, 5, none⟩ = false := HR.out.fr 5
      have fr6 : W7.frozen? ⟨g, 6, none⟩ = false := HR.out.fr 6
      have fr7 : W7.frozen? ⟨g, 7, none⟩ = false := HR.out.fr 7
      have fr8 : W7.frozen? ⟨g, 8, none⟩ = false := HR.out.fr 8
      have fr9 : W7.frozen? ⟨g, 9, none⟩ = false := HR.out.fr 9
      have fr10 : W7.frozen? ⟨g, 10, none⟩ = false := HR.out.fr 10
      have fr11 : W7.frozen? ⟨g, 11, none⟩ = false := HR.out.fr 11
      rw [HG.out] at r0 r1 r2 r3 r4 r5 r6 r7 r8 r9 r10 r11 fr0 fr1 fr2 fr3 fr4 fr5 fr6 fr7 fr8 fr9 fr10 fr11
      go_wp2
      rw [← HG.out]
      have HBF := Lib.hid (show CBox (set12 (W7) g ⟨⟨l, l, l, l, 0, l, 3, l, 1, l⟩, .slice (some ⟨w2.heap.size, 0, none⟩) 1 1, .slice none 0 0⟩) g 30 ⟨⟨l, l, l, l, 0, l, 3, l, 1, l⟩, .slice (some ⟨w2.heap.size, 0, none⟩) 1 1, .slice none 0 0⟩ from CBox.set12 (HR.out))
      have HPOST := Lib.hid (show CoPost N (listsC c l) w (.returned (.agg #[.int .i64 l, .int .i64 l, .int .i64 l, .int .i64 l, .int .i64 0, .int .i64 l, .int .i64 3, .int .i64 l, .slice (some ⟨w2.heap.size, 0, none⟩) 1 1, .int .i64 1, .int .i64 l, .slice none 0 0])) (set12 (W7) g ⟨⟨l, l, l, l, 0, l, 3, l, 1, l⟩, .slice (some ⟨w2.heap.size, 0, none⟩) 1 1, .slice none 0 0⟩) from by rw [HRES2.out]; exact ⟨⟨_, rfl, (CoVN.set12 (g := g) (CoVN.mk (h := ⟨l, l, l, l, 0, l, 3, l, 1, l⟩) HS7.out (.mkNil _ _)) (.inr rfl)).mono fun _ _ h => .inl h⟩, Below.set12 (g := g) HL.out (by rw [HG.out]; omega)⟩)
      change bodyPost _ _ _ _ _ (set12 (W7) g ⟨⟨l, l, l, l, 0, l, 3, l, 1, l⟩, .slice (some ⟨w2.heap.size, 0, none⟩) 1 1, .slice none 0 0⟩)
      generalize set12 (W7) g ⟨⟨l, l, l, l, 0, l, 3, l, 1, l⟩, .slice (some ⟨w2.heap.size, 0, none⟩) 1 1, .slice none 0 0⟩ = wf at HBF HPOST ⊢
      have z0 := HBF.out.c0; have z1 := HBF.out.c1; have z2 := HBF.out.c2; have z3 := HBF.out.c3; have z4 := HBF.out.c4; have z5 := HBF.out.c5; have z6 := HBF.out.c6; have z7 := HBF.out.c7; have z8 := HBF.out.c8; have z9 := HBF.out.c9; have z10 := HBF.out.c10; have z11 := HBF.out.c11
      clear HBF
      refine bodyPost_ret (v := .agg #[.int .i64 l, .int .i64 l, .int .i64 l, .int .i64 l, .int .i64 0, .int .i64 l, .int .i64 3, .int .i64 l, .slice (some ⟨w2.heap.size, 0, none⟩) 1 1, .int .i64 1, .int .i64 l, .slice none 0 0]) ?_ ?_ ?_
      · simp [results, Tryd.results54, go_sem, z0, z1, z2, z3, z4, z5, z6, z7, z8, z9, z10, z11]
      · rfl
      · exact HPOST.out
end Go.Proofs.YtlalnkabfigodaaDoor
