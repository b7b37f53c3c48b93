import Derived.Test.YtlalnkabfigodaaDoorCoEa
namespace Go.Proofs.YtlalnkabfigodaaDoor
open Go.Lib (hid)
open Go.RowKit

theorem VarIs.off {w : World} {c g i : Nat} {T : TypeId} {v x : Value} (h : VarIs w c T v) (hne : c ≠ g) : VarIs (w.setCell ⟨g, i, none⟩ x) c T v := (Below.heap_setCell w ⟨g, i, none⟩ x c hne).trans h
theorem VarIs.set12 {w : World} {c g : Nat} {T : TypeId} {v : Value} {r : RawC} (h : VarIs w c T v) (hne : c ≠ g) : VarIs (Go.Proofs.YtlalnkabfigodaaDoor.set12 w g r) c T v := (VarIs.off (VarIs.off (VarIs.off (VarIs.off (VarIs.off (VarIs.off (VarIs.off (VarIs.off (VarIs.off (VarIs.off (VarIs.off (VarIs.off h hne (i := 0) (x := .int .i64 r.h.f0)) hne (i := 1) (x := .int .i64 r.h.f1)) hne (i := 2) (x := .int .i64 r.h.f2)) hne (i := 3) (x := .int .i64 r.h.f3)) hne (i := 4) (x := .int .i64 r.h.f4)) hne (i := 5) (x := .int .i64 r.h.f5)) hne (i := 6) (x := .int .i64 r.h.pair)) hne (i := 7) (x := .int .i64 r.h.pl)) hne (i := 8) (x := r.pv)) hne (i := 9) (x := .int .i64 r.h.fn)) hne (i := 10) (x := .int .i64 r.h.fl)) hne (i := 11) (x := r.fv))
theorem Stay.set12 {N : Nat → Prop} {w0 w : World} {g : Nat} {r : RawC} (h : Stay N w0 w) (hg : w0.heap.size ≤ g) : Stay N w0 (Go.Proofs.YtlalnkabfigodaaDoor.set12 w g r) := ((((((((((((h.setG (p := ⟨g, 0, Option.none⟩) hg (.int .i64 r.h.f0)).setG (p := ⟨g, 1, Option.none⟩) hg (.int .i64 r.h.f1)).setG (p := ⟨g, 2, Option.none⟩) hg (.int .i64 r.h.f2)).setG (p := ⟨g, 3, Option.none⟩) hg (.int .i64 r.h.f3)).setG (p := ⟨g, 4, Option.none⟩) hg (.int .i64 r.h.f4)).setG (p := ⟨g, 5, Option.none⟩) hg (.int .i64 r.h.f5)).setG (p := ⟨g, 6, Option.none⟩) hg (.int .i64 r.h.pair)).setG (p := ⟨g, 7, Option.none⟩) hg (.int .i64 r.h.pl)).setG (p := ⟨g, 8, Option.none⟩) hg (r.pv)).setG (p := ⟨g, 9, Option.none⟩) hg (.int .i64 r.h.fn)).setG (p := ⟨g, 10, Option.none⟩) hg (.int .i64 r.h.fl)).setG (p := ⟨g, 11, Option.none⟩) hg (r.fv))
/-- what the walk's calls hand back: made anew -/
def WPost (M cw k cost : Nat) (c : Co) (w : World) (e : Ending) (w' : World) : Prop := (∃ v, e = .returned v ∧ CoVN (Old w.heap.size) w' v c) ∧ Stay (· = cw) w w' ∧ ∃ k', k' ≤ k + cost ∧ WalkC M cw k' w'
theorem WPost.cell {M cw k cost k' g : Nat} {c : Co} {w w1 w2 : World} {v : Value} {r : RawC} (hv : CoVN (Old w1.heap.size) w2 v c) (h1 : w.heap.size ≤ g) (h2 : g < w1.heap.size) (hs : Stay (· = cw) w w2) (hk : k' ≤ k + cost) (hw : WalkC M cw k' w2) (hcw : cw < w.heap.size) : WPost M cw k cost c w (.returned v) (set12 w2 g r) :=
 ⟨⟨v, rfl, (CoVN.set12 (g := g) (r' := r) hv h2).mono fun b _ hb => Nat.lt_trans (Nat.lt_of_lt_of_le hb h1) h2⟩, hs.set12 h1, k', hk, VarIs.set12 hw (by omega)⟩
def CpOK (M n : Nat) : Prop := ∀ (x : Co) (vx : Value) (w : World) (cw k d : Nat), szC x ≤ n → k + szC x ≤ M → d + htC x ≤ 131000 → Thin x → WalkC M cw k w → CoVN (· = cw) w vx x → Calls Tryd.prog 73 #[.pointer (some ⟨cw, 0, none⟩), vx, .int .i64 d] w (WPost M cw k (szC x) x w)

set_option maxRecDepth 100000 in
set_option maxHeartbeats 8000000 in
theorem copies1_clo (M cw k : Nat) (x : Co) (vx : Value) (w : World) (g0 g1 d : Nat) (hd : d ≤ 131000) (h0 : VarIs w g0 66 (.pointer (some ⟨cw, 0, none⟩))) (h1 : VarIs w g1 3 (.int .i64 d)) (hcw : cw < w.heap.size) (hx : CoVN (· = cw) w vx x)
  (hcall : ∀ w1, Below w.heap.size w w1 → Calls Tryd.prog 73 #[.pointer (some ⟨cw, 0, none⟩), vx, .int .i64 ((d : Int) + 1)] w1 (WPost M cw k (szC x) x w1)) :
  Calls Tryd.prog 97 #[vx, .pointer (some ⟨g0, 0, none⟩), .pointer (some ⟨g1, 0, none⟩)] w (WPost M cw k (szC x) x w) := by
 obtain ⟨sz, hsz⟩ : ∃ n, n = szC x := ⟨_, rfl⟩
 rw [← hsz] at hcall ⊢
 obtain ⟨pa, pc, fa, fc, rfl, hp, hf⟩ := hx.form
 obtain ⟨np, hnp⟩ : ∃ n, n = x.pairs.length := ⟨_, rfl⟩
 obtain ⟨nf, hnf⟩ : ∃ n, n = x.funs.length := ⟨_, rfl⟩
 rw [← hnp, ← hnf] at hcall ⊢
 obtain ⟨W, hW⟩ : ∃ W, W = (w.alloc (.cells #[.int .i64 x.h.f0, .int .i64 x.h.f1, .int .i64 x.h.f2, .int .i64 x.h.f3, .int .i64 x.h.f4, .int .i64 x.h.f5, .int .i64 x.h.pair, .int .i64 x.h.pl, .slice pa np pc, .int .i64 x.h.fn, .int .i64 x.h.fl, .slice fa nf fc] 25)).alloc (.cells #[.int .i64 0, .int .i64 0, .int .i64 0, .int .i64 0, .int .i64 0, .int .i64 0, .int .i64 0, .int .i64 0, .slice none 0 0, .int .i64 0, .int .i64 0, .slice none 0 0] 25) := ⟨_, rfl⟩
 have hb : Below w.heap.size w W := by rw [hW]; exact (bAl _ _).alloc (by simp) _
 have HR := hid (show CBox W (w.heap.size + 1) 25 ⟨⟨0, 0, 0, 0, 0, 0, 0, 0, 0, 0⟩, .slice none 0 0, .slice none 0 0⟩ by rw [hW]; have := CBox.made (w.alloc (.cells #[.int .i64 x.h.f0, .int .i64 x.h.f1, .int .i64 x.h.f2, .int .i64 x.h.f3, .int .i64 x.h.f4, .int .i64 x.h.f5, .int .i64 x.h.pair, .int .i64 x.h.pl, .slice pa np pc, .int .i64 x.h.fn, .int .i64 x.h.fl, .slice fa nf fc] 25)) 25 ⟨⟨0, 0, 0, 0, 0, 0, 0, 0, 0, 0⟩, .slice none 0 0, .slice none 0 0⟩; simp only [alloc_hs7] at this; exact this)
 have HSZ := hid (show W.heap.size = w.heap.size + 2 by rw [hW]; simp)
 have HB := hid hb
 have k0 := (h0.keep hb).c
 have k1 := (h1.keep hb).c
 have HC := hid (hcall W hb)
 have HCW := hid hcw
 rw [hW] at k0 k1
 have hd2 : (d : Int) ≤ 131000 := by omega
 have HW := hid hW
 clear hcall hb hW h0 h1 hcw hx hd hp hf hnp hnf hsz
 go_enter Tryd.func97, Tryd.ntmps97
 go_wp2_with fail
 rw [← HW.out]
 refine HC.out.mono ?_
 rintro e w2 ⟨⟨v, rfl, hv⟩, hs2, k2, hk2, hw2⟩
 obtain ⟨ra, rc, rb, rd, rfl, _, _⟩ := hv.form
 have HV := hid hv
 have HR2 := hid (HR.out.stay hs2 (by have := HCW.out; omega))
 have HS2 := hid (show Stay (· = cw) w w2 from (Stay.of HB.out).trans hs2)
 have HK2 := hid hk2
 have HW2 := hid hw2
 clear hv hs2 hk2 hw2 k0 k1
 obtain ⟨r0, r1, r2, r3, r4, r5, r6, r7, r8, r9, r10, r11⟩ := HR2.out.cs
 (try dsimp only at r0 r1 r2 r3 r4 r5 r6 r7 r8 r9 r10 r11)
 obtain ⟨fr0, fr1, fr2, fr3, fr4, fr5, fr6, fr7, fr8, fr9, fr10, fr11⟩ := HR2.out.frs
 go_wp2
 have HPOST := hid (show WPost M cw k sz x w (.returned (coV ⟨x.h, .slice ra x.pairs.length rc, .slice rb x.funs.length rd⟩)) (set12 (w2) (w.heap.size + 1) ⟨x.h, .slice ra x.pairs.length rc, .slice rb x.funs.length rd⟩) from WPost.cell HV.out (by omega) (by have := HSZ.out; omega) HS2.out HK2.out HW2.out HCW.out)
 refine ret12 (w2) (w.heap.size + 1) ⟨x.h, .slice ra x.pairs.length rc, .slice rb x.funs.length rd⟩ (HR2.out) HPOST.out (fun wf hb => ?_) rfl
 obtain ⟨z0, z1, z2, z3, z4, z5, z6, z7, z8, z9, z10, z11⟩ := hb.cs
 simp [results, Tryd.results97, go_sem, coV, z0, z1, z2, z3, z4, z5, z6, z7, z8, z9, z10, z11]

theorem chain_sz {l : List Co} : ∀ {j s t : Nat}, j ≤ l.length → ChainR co0 (fun x (s t : Nat) => t ≤ s + szC x) l j s t → t ≤ s + szCs (l.take j) := by
 intro j
 induction j with
 | zero => intro s t _ h; have h : t = s := h; subst h; simp
 | succ j ih =>
  rintro s t hj ⟨u, h1, h2⟩
  have h4 := ih (by omega) h1
  rw [szCs_snoc l j (by omega)]; omega
/-- the walk's step count, and the variables that its closures read -/
structure CpsAt (M cw g0 g1 d : Nat) (k : Nat) (w : World) : Prop where
 walk : WalkC M cw k w
 ptr : VarIs w g0 66 (.pointer (some ⟨cw, 0, none⟩))
 lvl : VarIs w g1 3 (.int .i64 d)
theorem CpsAt.keep {M cw g0 g1 d k : Nat} {w w' : World} (h : CpsAt M cw g0 g1 d k w) (hb : Below w.heap.size w w') : CpsAt M cw g0 g1 d k w' := ⟨h.walk.keep hb, h.ptr.keep hb, h.lvl.keep hb⟩

set_option maxRecDepth 100000 in
set_option maxHeartbeats 8000000 in
theorem copies_of (M n : Nat) (ih : CpOK M n) (l : List Co) (a1 : Option Addr) (c1 : Nat) (w : World) (cw k d : Nat) (h1 : szCs l ≤ n) (h2 : k + szCs l ≤ M) (h3 : d + 1 + htCs l ≤ 131000) (hlen : l.length ≤ 100) (hth : ∀ e ∈ l, Thin e) (hw : WalkC M cw k w) (hl : CoS w (Lc (· = cw) w) (.slice a1 l.length c1) l) :
  Calls Tryd.prog 93 #[.pointer (some ⟨cw, 0, none⟩), .slice a1 l.length c1, .int .i64 d] w fun e w' => (∃ v, e = .returned v ∧ CoS w' (Lc (Old w.heap.size) w') v l) ∧ Stay (· = cw) w w' ∧ ∃ k', k' ≤ k + szCs l ∧ WalkC M cw k' w' := by
 have hmf0 : ∀ (fn : Fn) (first cap : Array Value) (w : World), (Instr.makeFunc fn first cap).run Tryd.prog w = .ok (.func fn first cap) w := fun _ _ _ _ => rfl
 have hcw := hw.lt
 have hcon : ∀ (w1 : World) (g0 g1 : Nat), CpsAt M cw g0 g1 d k w1 → g0 < w1.heap.size → g1 < w1.heap.size → g0 ≠ cw → g1 ≠ cw → CoS w1 (Lc (· = cw) w1) (.slice a1 l.length c1) l →
   Calls Tryd.prog 96 #[.slice a1 l.length c1, .func (.func 97) #[] #[.pointer (some ⟨g0, 0, none⟩), .pointer (some ⟨g1, 0, none⟩)]] w1
   fun e w' => (∃ v, e = .returned v ∧ CoS w' (Lc (Old w1.heap.size) w') v l) ∧ Stay (· = cw) w1 w' ∧ ∃ k', k' ≤ k + szCs l ∧ WalkC M cw k' w' := fun w1 g0 g1 hv hg0 hg1 n0 n1 hl1 => by
  have G : FnV (σ := Nat) (CoVN (· = cw)) (· = cw) (CpsAt M cw g0 g1 d) 97 #[.pointer (some ⟨g0, 0, none⟩), .pointer (some ⟨g1, 0, none⟩)] w1 (fun x t => szC x ≤ n ∧ t + szC x ≤ M ∧ d + 1 + htC x ≤ 131000 ∧ Thin x) (fun w w' v x => CoVN (Old w.heap.size) w' v x) (fun x t t' => t' ≤ t + szC x) := by
   refine ⟨fun _ _ _ h hb => h.keep hb, fun _ _ => rfl, ?_⟩
   intro w2 v1 x t hs hv2 hpre hx
   refine (copies1_clo M cw t x v1 w2 g0 g1 d (by omega) hv2.ptr hv2.lvl hv2.walk.lt hx fun w3 hb => ?_).mono ?_
   ·
    exact ih x v1 w3 cw t (d + 1) hpre.1 hpre.2.1 hpre.2.2.1 hpre.2.2.2 (hv2.walk.keep hb) (hx.below hb)
   ·
    rintro e w4 ⟨hr, hs4, t', ht', hw'⟩
    exact ⟨hr, hs4, t', ht', hw', hv2.ptr.stay hs4 n0, hv2.lvl.stay hs4 n1⟩
  have hcw1 := hv.walk.lt
  refine (eachc_any (Fm := fun x => x) G (fun s w w' h hs => ⟨VarIs.stay h.walk hs (by omega), h.ptr.stay hs (by omega), h.lvl.stay hs (by omega)⟩) (fun b hb => by omega) l a1 c1 w1 k .refl hv hl1 hlen fun j t hj hch => ?_).mono ?_
  ·
   have h7 := chain_sz (by omega) hch
   have h8 := szCs_snoc l j hj
   have h9 := szCs_le l (j + 1)
   exact ⟨by have := szCs_get l j hj; omega, by omega, by have := htCs_mem (getC_mem hj); omega, hth _ (getC_mem hj)⟩
  ·
   rintro e w2 ⟨⟨v, he, hc⟩, hs2, t, hch, hv2⟩
   rw [List.map_id'] at hc
   exact ⟨⟨v, he, hc⟩, hs2, t, by have := chain_sz (Nat.le_refl _) hch; rw [List.take_length] at this; exact this, hv2.walk⟩
 obtain ⟨nl, hnl⟩ : ∃ n, n = l.length := ⟨_, rfl⟩
 obtain ⟨W, hW⟩ : ∃ W, W = (w.alloc (.cells #[.pointer (some ⟨cw, 0, none⟩)] 66)).alloc (.cells #[.int .i64 (d : Int)] 3) := ⟨_, rfl⟩
 have hb : Below w.heap.size w W := by rw [hW]; exact (bAl _ _).alloc (by simp) _
 have hat : CpsAt M cw w.heap.size (w.heap.size + 1) d k W := by
  refine ⟨hw.keep hb, ?_, ?_⟩
  ·
   rw [hW]; exact (VarIs.made w 66 _).keep (bAl _ _)
  ·
   rw [hW]; have := VarIs.made (w.alloc (.cells #[.pointer (some ⟨cw, 0, none⟩)] 66)) 3 (.int .i64 d); simp only [alloc_hs7] at this; exact this
 have hsz : W.heap.size = w.heap.size + 2 := by rw [hW]; simp
 have C := hcon W w.heap.size (w.heap.size + 1) hat (by omega) (by omega) (by omega) (by omega) (CoSN.below hl hb)
 rw [← hnl] at C ⊢
 have HC := hid C
 have HB := hid hb
 have HW := hid hW
 clear C hcon hb hW hat hsz hnl hl hw h1 h2 h3 hlen hth hcw ih
 go_enter Tryd.func93, Tryd.ntmps93
 go_wp2_with fail
 rw [← HW.out]
 refine HC.out.mono ?_
 rintro e w2 ⟨⟨v, rfl, hv⟩, hs2, hk⟩
 have HV := hid hv
 have HS := hid hs2
 have HK := hid hk
 clear hv hs2 hk
 go_wp2
 go_ret
 exact ⟨⟨_, rfl, CoSN.mono HV.out fun b _ h => Nat.lt_of_lt_of_le h HB.out.size⟩, (Stay.of HB.out).trans HS.out, HK.out⟩
end Go.Proofs.YtlalnkabfigodaaDoor
