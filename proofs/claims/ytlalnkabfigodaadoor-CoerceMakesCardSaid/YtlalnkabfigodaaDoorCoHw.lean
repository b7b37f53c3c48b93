import Derived.Test.YtlalnkabfigodaaDoorCoPr
namespace Go.Proofs.YtlalnkabfigodaaDoor
open Go.Lib (hid)
open Go.RowKit

mutual
/-- does all within one hold, level by level? -/
def visB (pr : Co → Nat → Bool) : Co → Nat → Bool
 | .mk h p f, lv => pr (.mk h p f) lv && visBs pr p (lv + 1) && visBs pr f (lv + 1)
def visBs (pr : Co → Nat → Bool) : List Co → Nat → Bool
 | [], _ => true
 | d :: r, lv => visB pr d lv && visBs pr r lv
end
mutual
/-- what one comes to who goes through all within one -/
def visS (st : Co → Nat → Nat → Nat) : Co → Nat → Nat → Nat
 | .mk h p f, lv, s => visSs st f (lv + 1) (visSs st p (lv + 1) (st (.mk h p f) lv s))
def visSs (st : Co → Nat → Nat → Nat) : List Co → Nat → Nat → Nat
 | [], _, s => s
 | d :: r, lv, s => visSs st r lv (visS st d lv s)
end
theorem visB_eq (pr : Co → Nat → Bool) (c : Co) (lv : Nat) : visB pr c lv = (pr c lv && visBs pr c.pairs (lv + 1) && visBs pr c.funs (lv + 1)) := by cases c; rw [visB]; rfl
theorem visS_eq (st : Co → Nat → Nat → Nat) (c : Co) (lv s : Nat) : visS st c lv s = visSs st c.funs (lv + 1) (visSs st c.pairs (lv + 1) (st c lv s)) := by cases c; rw [visS]; rfl
theorem visBs_any (pr : Co → Nat → Bool) (lv : Nat) : ∀ l : List Co, visBs pr l lv = !l.any fun c => !visB pr c lv
 | [] => rfl
 | d :: r => by rw [visBs, visBs_any pr lv r, List.any_cons, Bool.not_or, Bool.not_not]
theorem visSs_snoc (st : Co → Nat → Nat → Nat) (lv : Nat) : ∀ (l : List Co) (s k : Nat), k < l.length → visSs st (l.take (k + 1)) lv s = visS st (l.getD k co0) lv (visSs st (l.take k) lv s)
 | [], s, k, h => by simp at h
 | d :: r, s, 0, _ => by simp [visSs]
 | d :: r, s, k + 1, h => by
  have := visSs_snoc st lv r (visS st d lv s) k (by simpa using h)
  simpa [visSs, List.take_succ_cons] using this
theorem szCs_snoc : ∀ (l : List Co) (k : Nat), k < l.length → szCs (l.take (k + 1)) = szCs (l.take k) + szC (l.getD k co0)
 | [], k, h => by simp at h
 | d :: r, 0, _ => by simp [szCs]
 | d :: r, k + 1, h => by
  have := szCs_snoc r k (by simpa using h)
  simp only [List.take_succ_cons, szCs, List.getD_cons_succ, this]; omega
theorem szCs_le : ∀ (l : List Co) (k : Nat), szCs (l.take k) ≤ szCs l
 | [], k => by simp
 | d :: r, 0 => by simp [szCs]
 | d :: r, k + 1 => by
  have := szCs_le r k
  simp only [List.take_succ_cons, szCs]; omega
/-- what is known of the function that is asked of each -/
structure FnH (Nh : Nat → Prop) (Sh : Nat → World → Prop) (kh : Nat) (lbh : Array Value) (pr : Co → Nat → Bool) (st : Co → Nat → Nat → Nat) : Prop where
 keep : ∀ (N : Nat → Prop) (s : Nat) (w w' : World), Sh s w → Stay N w w' → (∀ b, Nh b → ¬ N b) → Sh s w'
 enter : ∀ (args : Array Value) (w : World), (callFunc kh args).run Tryd.prog w = .ok (.enter kh args) w
 grow : ∀ x lv s, st x lv s ≤ max (s + 1) lv
 call : ∀ (w : World) (vx : Value) (x : Co) (lv s : Nat), Sh s w → lv ≤ 1000 → s ≤ 100000 → CoV w vx x →
  Calls Tryd.prog kh (#[vx, .int .i64 lv] ++ lbh) w fun e w' => e = .returned (.bool (pr x lv)) ∧ Stay Nh w w' ∧ Sh (st x lv s) w'
/-- where one is who goes through a coercion: how many steps, and what the function has come to -/
structure VisAt (Nh : Nat → Prop) (Sh : Nat → World → Prop) (kh : Nat) (lbh : Array Value) (M gv gw gh : Nat) (s : Nat × Nat) (w : World) : Prop where
 walk : WalkC M gw s.1 w
 visit : VarIs w gv 42 (.func (.func 66) #[] #[.pointer (some ⟨gv, 0, none⟩), .pointer (some ⟨gw, 0, none⟩), .pointer (some ⟨gh, 0, none⟩)])
 holds : VarIs w gh 42 (.func (.func kh) #[] lbh)
 sh : Sh s.2 w
 le : s.2 ≤ s.1 + 1000
theorem VisAt.keep {Nh : Nat → Prop} {Sh : Nat → World → Prop} {kh : Nat} {lbh : Array Value} {pr : Co → Nat → Bool} {st : Co → Nat → Nat → Nat} (F : FnH Nh Sh kh lbh pr st) {M gv gw gh : Nat} {s : Nat × Nat} {w w' : World} (h : VisAt Nh Sh kh lbh M gv gw gh s w) (hb : Below w.heap.size w w') : VisAt Nh Sh kh lbh M gv gw gh s w' :=
 ⟨h.walk.keep hb, h.visit.keep hb, h.holds.keep hb, F.keep (fun _ => False) _ _ _ h.sh (.of hb) (fun _ _ h => h), h.le⟩
/-- the blocks that change -/
def NV (Nh : Nat → Prop) (gw : Nat) : Nat → Prop := fun b => b = gw ∨ Nh b

set_option maxRecDepth 100000 in
set_option maxHeartbeats 8000000 in
theorem fails_clo {S : World → Prop} {z : Bool} (x : Co) (vx : Value) (w : World) (gv gw gh gl lv : Nat) (hlv : lv ≤ 1000) (h1 : VarIs w gv 42 (.func (.func 66) #[] #[.pointer (some ⟨gv, 0, none⟩), .pointer (some ⟨gw, 0, none⟩), .pointer (some ⟨gh, 0, none⟩)])) (h2 : VarIs w gl 3 (.int .i64 lv)) (hx : CoV w vx x)
  (hcall : ∀ w1, Below w.heap.size w w1 → Calls Tryd.prog 66 #[vx, .int .i64 ((lv : Int) + 1), .pointer (some ⟨gv, 0, none⟩), .pointer (some ⟨gw, 0, none⟩), .pointer (some ⟨gh, 0, none⟩)] w1 fun e w' => e = .returned (.bool z) ∧ S w') :
  Calls Tryd.prog 67 #[vx, .pointer (some ⟨gv, 0, none⟩), .pointer (some ⟨gl, 0, none⟩)] w fun e w' => e = .returned (.bool (!z)) ∧ S w' := by
 have eg : ∀ (args : Array Value) (w : World), (callFunc 66 args).run Tryd.prog w = .ok (.enter 66 args) w := fun _ _ => rfl
 obtain ⟨pa, pc, fa, fc, rfl, hp, hf⟩ := hx.form
 obtain ⟨np, hnp⟩ : ∃ n, n = x.pairs.length := ⟨_, rfl⟩
 obtain ⟨nf, hnf⟩ : ∃ n, n = x.funs.length := ⟨_, rfl⟩
 rw [← hnp, ← hnf] at hcall ⊢
 obtain ⟨W, hW⟩ : ∃ W, W = w.alloc (.cells #[.int .i64 x.h.f0, .int .i64 x.h.f1, .int .i64 x.h.f2, .int .i64 x.h.f3, .int .i64 x.h.f4, .int .i64 x.h.f5, .int .i64 x.h.pair, .int .i64 x.h.pl, .slice pa np pc, .int .i64 x.h.fn, .int .i64 x.h.fl, .slice fa nf fc] 25) := ⟨_, rfl⟩
 have HBW := hid (show Below w.heap.size w W by rw [hW]; exact bAl _ _)
 have k1 := (h1.keep HBW.out).c
 have k2 := (h2.keep HBW.out).c
 rw [hW] at k1 k2
 have HC := hid (hcall W HBW.out)
 have HW := hid hW
 have hd2 : (lv : Int) ≤ 1000 := by omega
 clear hcall hW h1 h2 hx hlv hp hf hnp hnf
 go_enter Tryd.func67, Tryd.ntmps67
 go_wp2_with fail
 rw [← HW.out]
 refine HC.out.mono ?_
 rintro e w2 ⟨rfl, hb2⟩
 go_wp2
 go_ret
 exact ⟨rfl, hb2⟩

def VisOK (Nh : Nat → Prop) (Sh : Nat → World → Prop) (kh : Nat) (lbh : Array Value) (pr : Co → Nat → Bool) (st : Co → Nat → Nat → Nat) (M gv gw gh n : Nat) : Prop :=
 ∀ (x : Co) (vx : Value) (w : World) (lv k s : Nat), szC x ≤ n → k + szC x ≤ 50000 → lv + szC x ≤ 1000 → (∀ b, NV Nh gw b → b < w.heap.size) → VisAt Nh Sh kh lbh M gv gw gh (k, s) w → CoVN (NV Nh gw) w vx x →
  Calls Tryd.prog 66 #[vx, .int .i64 lv, .pointer (some ⟨gv, 0, none⟩), .pointer (some ⟨gw, 0, none⟩), .pointer (some ⟨gh, 0, none⟩)] w fun e w' => e = .returned (.bool (visB pr x lv)) ∧ Stay (NV Nh gw) w w' ∧
   ∃ t : Nat × Nat, (t.1 ≤ k + szC x ∧ (visB pr x lv = true → t.2 = visS st x lv s)) ∧ VisAt Nh Sh kh lbh M gv gw gh t w'

theorem chain_vis {pr : Co → Nat → Bool} {st : Co → Nat → Nat → Nat} {lv : Nat} {l : List Co} : ∀ {j : Nat} {s t : Nat × Nat}, j ≤ l.length →
  ChainR co0 (fun x (s t : Nat × Nat) => t.1 ≤ s.1 + szC x ∧ (visB pr x lv = true → t.2 = visS st x lv s.2)) l j s t →
  t.1 ≤ s.1 + szCs (l.take j) ∧ ((∀ i, i < j → visB pr (l.getD i co0) lv = true) → t.2 = visSs st (l.take j) lv s.2) := by
 intro j
 induction j with
 | zero =>
  intro s t _ h
  have h : t = s := h
  subst h
  exact ⟨by simp, fun _ => by simp [visSs]⟩
 | succ j ih =>
  rintro s t hj ⟨u, h1, h2, h3⟩
  obtain ⟨h4, h5⟩ := ih (by omega) h1
  rw [szCs_snoc l j (by omega)]
  refine ⟨by omega, fun ha => ?_⟩
  rw [visSs_snoc st lv l s.2 j (by omega), h3 (ha j (by omega)), h5 fun i hi => ha i (by omega)]

set_option maxRecDepth 100000 in
set_option maxHeartbeats 16000000 in
theorem visit_succ {Nh : Nat → Prop} {Sh : Nat → World → Prop} {kh : Nat} {lbh : Array Value} {pr : Co → Nat → Bool} {st : Co → Nat → Nat → Nat} (F : FnH Nh Sh kh lbh pr st) {M gv gw gh : Nat} (hM : 60000 ≤ M ∧ M ≤ 2147483647) (hvh : ¬ NV Nh gw gv ∧ ¬ NV Nh gw gh ∧ ¬ Nh gw) (n : Nat)
  (ih : VisOK Nh Sh kh lbh pr st M gv gw gh n) : VisOK Nh Sh kh lbh pr st M gv gw gh (n + 1) := by
 intro x vx w lv k s hsz hk hlv hN hst hx
 have hmf : ∀ (fn : Fn) (first cap : Array Value) (w : World), (Instr.makeFunc fn first cap).run Tryd.prog w = .ok (.func fn first cap) w := fun _ _ _ _ => rfl
 have eg := F.enter
 have hsx := szC_eq x
 have hpos := szC_pos x
 have hcon : ∀ (l : List Co) (a1 : Option Addr) (c1 : Nat) (w1 : World) (g1 k1 s1 : Nat), szCs l ≤ n → k1 + szCs l ≤ 50000 → (∀ d ∈ l, lv + 1 + szC d ≤ 1000) → Stay (NV Nh gw) w w1 → VisAt Nh Sh kh lbh M gv gw gh (k1, s1) w1 → ¬ NV Nh gw g1 → VarIs w1 g1 3 (.int .i64 lv) → CoS w1 (Lc (NV Nh gw) w1) (.slice a1 l.length c1) l →
   Calls Tryd.prog 68 #[.slice a1 l.length c1, .func (.func 67) #[] #[.pointer (some ⟨gv, 0, none⟩), .pointer (some ⟨g1, 0, none⟩)]] w1
   fun e w' => e = .returned (.bool (!visBs pr l (lv + 1))) ∧ Stay (NV Nh gw) w1 w' ∧ ∃ t : Nat × Nat, (t.1 ≤ k1 + szCs l ∧ (visBs pr l (lv + 1) = true → t.2 = visSs st l (lv + 1) s1)) ∧ VisAt Nh Sh kh lbh M gv gw gh t w' := fun l a1 c1 w1 g1 k1 s1 hl1 hl2 hl3 h1 h2 h3 h4 h5 => by
  have G : FnV (σ := Nat × Nat) (CoVN (NV Nh gw)) (NV Nh gw) (VisAt Nh Sh kh lbh M gv gw gh) 67 #[.pointer (some ⟨gv, 0, none⟩), .pointer (some ⟨g1, 0, none⟩)] w1 (fun d t => szC d ≤ n ∧ t.1 + szC d ≤ 50000 ∧ lv + 1 + szC d ≤ 1000) (BoolR fun d => !visB pr d (lv + 1)) (fun d t t' => t'.1 ≤ t.1 + szC d ∧ (visB pr d (lv + 1) = true → t'.2 = visS st d (lv + 1) t.2)) := by
   refine ⟨fun _ _ _ h hb => h.keep F hb, fun _ _ => rfl, ?_⟩
   intro w2 v1 d t hs hv hpre hd
   have hN2 : ∀ b, NV Nh gw b → b < w2.heap.size := fun b hb => Nat.lt_of_lt_of_le (hN b hb) (Nat.le_trans h1.size hs.size)
   refine (fails_clo (z := visB pr d (lv + 1)) (S := fun w' => Stay (NV Nh gw) w2 w' ∧ ∃ t' : Nat × Nat, (t'.1 ≤ t.1 + szC d ∧ (visB pr d (lv + 1) = true → t'.2 = visS st d (lv + 1) t.2)) ∧ VisAt Nh Sh kh lbh M gv gw gh t' w') d v1 w2 gv gw gh g1 lv (by omega) hv.visit (h4.stay hs h3) hd.cv fun w3 hb => ?_).mono ?_
   ·
    have := ih d v1 w3 (lv + 1) t.1 t.2 hpre.1 hpre.2.1 hpre.2.2 (fun b hh => Nat.lt_of_lt_of_le (hN2 b hh) hb.size) (hv.keep F hb) (hd.below hb)
    refine this.mono ?_
    rintro e w4 ⟨he, hs4, t', ht', hv'⟩
    exact ⟨he, (Stay.of hb).trans hs4, t', ht', hv'⟩
   ·
    rintro e w4 ⟨he, hs4, t', ht', hv'⟩
    exact ⟨⟨_, he, rfl⟩, hs4, t', ht', hv'⟩
  refine (containsc_any G l a1 c1 w1 (k1, s1) .refl h2 h5 fun j t hj hch => ?_).mono ?_
  ·
   have h6 := chain_vis (by omega) hch
   have h7 := szCs_snoc l j hj
   have h8 := szCs_le l (j + 1)
   exact ⟨by have := szCs_get l j hj; omega, by have := h6.1; simp only at this; omega, hl3 _ (getC_mem hj)⟩
  ·
   rintro e w2 ⟨he, hs2, j, t, hj, hch, hv, hall⟩
   have h6 := chain_vis hj hch
   refine ⟨by rw [he, visBs_any, Bool.not_not], hs2, t, ⟨by have := h6.1; have := szCs_le l j; simp only at *; omega, fun ha => ?_⟩, hv⟩
   have hany : (l.any fun d => !visB pr d (lv + 1)) = false := by rw [visBs_any] at ha; simpa using ha
   have hjl := hall hany
   have h7 := h6.2 fun i hi => by
    rw [List.any_eq_false] at hany
    have := hany _ (getC_mem (l := l) (j := i) (by omega))
    simpa using this
   rw [h7, hjl, List.take_length]
 have hzB := visB_eq pr x lv
 have hzS := visS_eq st x lv s
 have hhold := F.call
 have hgrow := F.grow x lv s
 have hkeep := F.keep
 have h3p : ∀ d ∈ x.pairs, lv + 1 + szC d ≤ 1000 := fun d hd => by have := szC_pairs hd; omega
 have h3f : ∀ d ∈ x.funs, lv + 1 + szC d ≤ 1000 := fun d hd => by have := szC_funs hd; omega
 obtain ⟨pa, pc, fa, fc, rfl, hp, hf⟩ := hx.form
 obtain ⟨np, hnp⟩ : ∃ n, n = x.pairs.length := ⟨_, rfl⟩
 obtain ⟨nf, hnf⟩ : ∃ n, n = x.funs.length := ⟨_, rfl⟩
 rw [← hnp] at hp
 rw [← hnf] at hf
 rw [← hnp, ← hnf] at hx ⊢
 obtain ⟨g, hg⟩ : ∃ g, g = w.heap.size := ⟨_, rfl⟩
 obtain ⟨W, hW⟩ : ∃ W, W = (w.alloc (.cells #[.int .i64 x.h.f0, .int .i64 x.h.f1, .int .i64 x.h.f2, .int .i64 x.h.f3, .int .i64 x.h.f4, .int .i64 x.h.f5, .int .i64 x.h.pair, .int .i64 x.h.pl, .slice pa np pc, .int .i64 x.h.fn, .int .i64 x.h.fl, .slice fa nf fc] 25)).alloc (.cells #[.int .i64 (lv : Int)] 3) := ⟨_, rfl⟩
 have hb0 : Below w.heap.size w W := by rw [hW]; exact (bAl _ _).alloc (by simp) _
 have HX := hid (show CBox W g 25 ⟨x.h, .slice pa np pc, .slice fa nf fc⟩ by rw [hW, hg]; exact (CBox.made _ _ ⟨x.h, .slice pa np pc, .slice fa nf fc⟩).keep (bAl _ _))
 have HV := hid (show VarIs W (g + 1) 3 (.int .i64 lv) by rw [hW, hg]; have := VarIs.made (w.alloc (.cells #[.int .i64 x.h.f0, .int .i64 x.h.f1, .int .i64 x.h.f2, .int .i64 x.h.f3, .int .i64 x.h.f4, .int .i64 x.h.f5, .int .i64 x.h.pair, .int .i64 x.h.pl, .slice pa np pc, .int .i64 x.h.fn, .int .i64 x.h.fl, .slice fa nf fc] 25)) 3 (.int .i64 lv); simp only [alloc_hs7] at this; exact this)
 have HST := hid (hst.keep F hb0)
 have HSZ := hid (show W.heap.size = g + 2 by rw [hW, hg]; simp)
 have HNG := hid (show ¬ NV Nh gw g ∧ ¬ NV Nh gw (g + 1) by rw [hg]; exact ⟨fun h => by have := hN _ h; omega, fun h => by have := hN _ h; omega⟩)
 have HN := hid hN
 have HB := hid hb0
 have HXV := hid hx
 have HP := hid hp
 have HF := hid hf
 have HCON := hid hcon
 have HZB := hid hzB
 have HZS := hid hzS
 have HHO := hid hhold
 have HGR := hid hgrow
 have HKE := hid hkeep
 have HNP := hid hnp
 have HNF := hid hnf
 have H3P := hid h3p
 have H3F := hid h3f
 have HG := hid hg
 have HW := hid hW
 have HM := hid hM
 have HVH := hid hvh
 have hlv2 : (lv : Int) ≤ 1000 := by omega
 have HBD := hid (show szC x ≤ n + 1 ∧ k + szC x ≤ 50000 ∧ lv + szC x ≤ 1000 ∧ szC x = 1 + szCs x.pairs + szCs x.funs from ⟨hsz, hk, hlv, hsx⟩)
 have HFF := hid F
 have HLE := hid hst.le
 clear F hst hN hb0 hx hp hf hcon hzB hzS hhold hgrow hkeep hnp hnf h3p h3f hg hW hM hvh hsz hk hlv hsx hpos ih
 have v0 := HV.out.c
 rw [HG.out, HW.out] at v0
 go_enter Tryd.func66, Tryd.ntmps66
 go_wp2_with fail
 rw [← HW.out]
 refine (onc_any M gw k lv W HST.out.walk (by have := HBD.out; have := HM.out; omega) HM.out.2 (by have := HBD.out; omega)).mono ?_
 rintro e w2 ⟨rfl, hs2, hw2⟩
 have hs2' := hs2.up (M := NV Nh gw) fun b h => .inl h
 have HS2 := hid (show Stay (NV Nh gw) w w2 from (Stay.of HB.out).trans hs2')
 have HX2 := hid (HX.out.stay hs2' HNG.out.1)
 have HV2 := hid (HV.out.stay hs2' HNG.out.2)
 have HW2 := hid hw2
 have HVI2 := hid (HST.out.visit.stay hs2' HVH.out.1)
 have HHO2 := hid (HST.out.holds.stay hs2' HVH.out.2.1)
 have HSH2 := hid (HKE.out _ _ _ _ HST.out.sh hs2 fun b hb he => HVH.out.2.2 (by rw [← he]; exact hb))
 clear hs2 hs2' hw2 v0
 rw [← HG.out]
 have v0 := HV2.out.c
 have h0 := HHO2.out.c
 obtain ⟨x0, x1, x2, x3, x4, x5, x6, x7, x8, x9, x10, x11⟩ := HX2.out.cs
 (try dsimp only at x0 x1 x2 x3 x4 x5 x6 x7 x8 x9 x10 x11)
 go_wp2_with fail
 refine (HHO.out w2 _ x lv s HSH2.out (by have := HBD.out; omega) (by have := HBD.out; have := HLE.out; omega) (HXV.out.stay HS2.out).cv).mono ?_
 rintro e w3 ⟨rfl, hs3, hsh3⟩
 have hs3' := hs3.up (M := NV Nh gw) fun b h => .inr h
 have HS3 := hid (HS2.out.trans hs3')
 have HX3 := hid (HX2.out.stay hs3' HNG.out.1)
 have HV3 := hid (HV2.out.stay hs3' HNG.out.2)
 have HVA3 := hid (show VisAt Nh Sh kh lbh M gv gw gh (k + 1, st x lv s) w3 from ⟨VarIs.stay HW2.out hs3 HVH.out.2.2, HVI2.out.stay hs3' HVH.out.1, HHO2.out.stay hs3' HVH.out.2.1, hsh3, by have := HGR.out; have := HLE.out; have := HBD.out; simp only at *; omega⟩)
 clear hs3 hs3' hsh3 v0 h0 x0 x1 x2 x3 x4 x5 x6 x7 x8 x9 x10 x11
 generalize hzp : pr x lv = zp at HZB ⊢
 clear hzp
 cases zp with
 | false =>
  have HZ2 := hid (show visB pr x lv = false by rw [HZB.out]; rfl)
  go_wp2
  go_ret
  refine ⟨ret_bool HZ2.out.symm, HS3.out, (k + 1, st x lv s), ⟨by have := HBD.out; simp only; omega, fun h => by rw [HZ2.out] at h; cases h⟩, HVA3.out⟩
 | true =>
  have HC3 := hid (HCON.out x.pairs pa pc w3 (g + 1) (k + 1) (st x lv s) (by have := HBD.out; omega) (by have := HBD.out; omega) H3P.out HS3.out HVA3.out HNG.out.2 HV3.out (CoSN.stay (by have := HP.out; rwa [HNP.out] at this) HS3.out))
  rw [← HNP.out] at HC3
  obtain ⟨zq, hzq⟩ : ∃ z, z = visBs pr x.pairs (lv + 1) := ⟨_, rfl⟩
  rw [← hzq] at HC3 HZB
  have HZQ := hid hzq
  clear hzq
  obtain ⟨x0, x1, x2, x3, x4, x5, x6, x7, x8, x9, x10, x11⟩ := HX3.out.cs
  (try dsimp only at x0 x1 x2 x3 x4 x5 x6 x7 x8 x9 x10 x11)
  go_wp2_with fail
  refine HC3.out.mono ?_
  rintro e w4 ⟨rfl, hs4, t4, ht4, hv4⟩
  have HS4 := hid (HS3.out.trans hs4)
  have HX4 := hid (HX3.out.stay hs4 HNG.out.1)
  have HV4 := hid (HV3.out.stay hs4 HNG.out.2)
  have HVA4 := hid hv4
  have HT4 := hid ht4
  clear hs4 ht4 hv4 x0 x1 x2 x3 x4 x5 x6 x7 x8 x9 x10 x11
  cases zq with
  | false =>
   have HZ2 := hid (show visB pr x lv = false by rw [HZB.out]; rfl)
   go_wp2
   go_ret
   refine ⟨ret_bool HZ2.out.symm, HS4.out, t4, ⟨by have := HBD.out; have := HT4.out.1; omega, fun h => by rw [HZ2.out] at h; cases h⟩, HVA4.out⟩
  | true =>
   have HC4 := hid (HCON.out x.funs fa fc w4 (g + 1) t4.1 t4.2 (by have := HBD.out; omega) (by have := HBD.out; have := HT4.out.1; omega) H3F.out HS4.out HVA4.out HNG.out.2 HV4.out (CoSN.stay (by have := HF.out; rwa [HNF.out] at this) HS4.out))
   rw [← HNF.out] at HC4
   obtain ⟨zr, hzr⟩ : ∃ z, z = visBs pr x.funs (lv + 1) := ⟨_, rfl⟩
   rw [← hzr] at HC4 HZB
   have HZR := hid hzr
   clear hzr
   obtain ⟨x0, x1, x2, x3, x4, x5, x6, x7, x8, x9, x10, x11⟩ := HX4.out.cs
   (try dsimp only at x0 x1 x2 x3 x4 x5 x6 x7 x8 x9 x10 x11)
   go_wp2_with fail
   refine HC4.out.mono ?_
   rintro e w5 ⟨rfl, hs5, t5, ht5, hv5⟩
   go_wp2
   go_ret
   refine ⟨ret_bool (by rw [HZB.out]; cases zr <;> rfl), HS4.out.trans hs5, t5, ⟨by have := HBD.out; have := HT4.out.1; have := ht5.1; omega, fun h => ?_⟩, hv5⟩
   have hr : zr = true := by rw [HZB.out] at h; cases zr <;> simp_all
   rw [ht5.2 hr, HT4.out.2 (by trivial), HZS.out]

theorem visit_any {Nh : Nat → Prop} {Sh : Nat → World → Prop} {kh : Nat} {lbh : Array Value} {pr : Co → Nat → Bool} {st : Co → Nat → Nat → Nat} (F : FnH Nh Sh kh lbh pr st) {M gv gw gh : Nat} (hM : 60000 ≤ M ∧ M ≤ 2147483647) (hvh : ¬ NV Nh gw gv ∧ ¬ NV Nh gw gh ∧ ¬ Nh gw) (n : Nat) : VisOK Nh Sh kh lbh pr st M gv gw gh n := by
 induction n with
 | zero => intro x vx w lv k s h; have := szC_pos x; omega
 | succ n ih => exact visit_succ F hM hvh n ih
end Go.Proofs.YtlalnkabfigodaaDoor
