import Derived.Test.YtlalnkabfigodaaDoorCoHx
namespace Go.Proofs.YtlalnkabfigodaaDoor
open Go.Lib (hid)
open Go.RowKit

theorem samesC_all (l m : List Co) : samesC l m = (decide (l.length = m.length) && allD sameC l m) := by
 rw [Bool.eq_iff_iff, samesC_iff, Bool.and_eq_true, decide_eq_true_iff, allD_iff]
/-- where one is who compares two -/
structure SameAt (M gs gw : Nat) (k : Nat) (w : World) : Prop where
 walk : WalkC M gw k w
 same : VarIs w gs 44 (.func (.func 44) #[] #[.pointer (some ⟨gs, 0, none⟩), .pointer (some ⟨gw, 0, none⟩)])
theorem SameAt.keep {M gs gw k : Nat} {w w' : World} (h : SameAt M gs gw k w) (hb : Below w.heap.size w w') : SameAt M gs gw k w' := ⟨h.walk.keep hb, h.same.keep hb⟩

set_option maxRecDepth 100000 in
set_option maxHeartbeats 8000000 in
theorem part_clo {S : World → Prop} {z : Bool} (x y : Co) (vx vy : Value) (w : World) (gs gw gl d : Nat) (hd : d ≤ 1000) (h1 : VarIs w gs 44 (.func (.func 44) #[] #[.pointer (some ⟨gs, 0, none⟩), .pointer (some ⟨gw, 0, none⟩)])) (h2 : VarIs w gl 3 (.int .i64 d)) (hx : CoV w vx x) (hy : CoV w vy y)
  (hcall : ∀ w1, Below w.heap.size w w1 → Calls Tryd.prog 44 #[vx, vy, .int .i64 ((d : Int) + 1), .pointer (some ⟨gs, 0, none⟩), .pointer (some ⟨gw, 0, none⟩)] w1 fun e w' => e = .returned (.bool z) ∧ S w') :
  Calls Tryd.prog 45 #[vx, vy, .pointer (some ⟨gs, 0, none⟩), .pointer (some ⟨gl, 0, none⟩)] w fun e w' => e = .returned (.bool z) ∧ S w' := by
 have eg : ∀ (args : Array Value) (w : World), (callFunc 44 args).run Tryd.prog w = .ok (.enter 44 args) w := fun _ _ => rfl
 obtain ⟨pa, pc, fa, fc, rfl, hp, hf⟩ := hx.form
 obtain ⟨np, hnp⟩ : ∃ n, n = x.pairs.length := ⟨_, rfl⟩
 obtain ⟨nf, hnf⟩ : ∃ n, n = x.funs.length := ⟨_, rfl⟩
 obtain ⟨qa, qc, ga, gc, rfl, hq, hg⟩ := hy.form
 obtain ⟨mp, hmp⟩ : ∃ n, n = y.pairs.length := ⟨_, rfl⟩
 obtain ⟨mf, hmf⟩ : ∃ n, n = y.funs.length := ⟨_, rfl⟩
 rw [← hnp, ← hnf, ← hmp, ← hmf] at hcall ⊢
 obtain ⟨W, hW⟩ : ∃ W, W = (w.alloc (.cells #[.int .i64 x.h.f0, .int .i64 x.h.f1, .int .i64 x.h.f2, .int .i64 x.h.f3, .int .i64 x.h.f4, .int .i64 x.h.f5, .int .i64 x.h.pair, .int .i64 x.h.pl, .slice pa np pc, .int .i64 x.h.fn, .int .i64 x.h.fl, .slice fa nf fc] 25)).alloc (.cells #[.int .i64 y.h.f0, .int .i64 y.h.f1, .int .i64 y.h.f2, .int .i64 y.h.f3, .int .i64 y.h.f4, .int .i64 y.h.f5, .int .i64 y.h.pair, .int .i64 y.h.pl, .slice qa mp qc, .int .i64 y.h.fn, .int .i64 y.h.fl, .slice ga mf gc] 25) := ⟨_, rfl⟩
 have HBW := hid (show Below w.heap.size w W by rw [hW]; exact (bAl _ _).alloc (by simp) _)
 have k1 := (h1.keep HBW.out).c
 have k2 := (h2.keep HBW.out).c
 rw [hW] at k1 k2
 have HC := hid (hcall W HBW.out)
 have HW := hid hW
 have hd2 : (d : Int) ≤ 1000 := by omega
 clear hcall hW h1 h2 hx hy hd hp hf hq hg hnp hnf hmp hmf
 go_enter Tryd.func45, Tryd.ntmps45
 go_wp2_with fail
 rw [← HW.out]
 refine HC.out.mono ?_
 rintro e w2 ⟨rfl, hb2⟩
 go_wp2
 go_ret
 exact ⟨rfl, hb2⟩

def SamOK (M gs gw n : Nat) : Prop := ∀ (x y : Co) (vx vy : Value) (w : World) (d k : Nat), szC x ≤ n → k + szC x ≤ 50000 → d + szC x ≤ 1000 → SameAt M gs gw k w → CoVN (· = gw) w vx x → CoVN (· = gw) w vy y →
  Calls Tryd.prog 44 #[vx, vy, .int .i64 d, .pointer (some ⟨gs, 0, none⟩), .pointer (some ⟨gw, 0, none⟩)] w fun e w' => e = .returned (.bool (sameC x y)) ∧ Stay (· = gw) w w' ∧ ∃ k', k' ≤ k + szC x ∧ SameAt M gs gw k' w'
theorem chain_sam {l m : List Co} : ∀ {j s t : Nat}, j ≤ l.length → ChainD (fun x _ (s t : Nat) => t ≤ s + szC x) l m j s t → t ≤ s + szCs (l.take j) := by
 intro j
 induction j with
 | zero => intro s t _ h; have h : t = s := h; subst h; simp
 | succ j ih =>
  rintro s t hj ⟨u, h1, h2⟩
  have h4 := ih (by omega) h1
  rw [szCs_snoc l j (by omega)]; omega

set_option maxRecDepth 100000 in
set_option maxHeartbeats 16000000 in
theorem sam_succ {M gs gw : Nat} (hM : 60000 ≤ M ∧ M ≤ 2147483647) (hgs : gs ≠ gw) (n : Nat) (ih : SamOK M gs gw n) : SamOK M gs gw (n + 1) := by
 intro x y vx vy w d k hsz hk hd hst hx hy
 have hmf0 : ∀ (fn : Fn) (first cap : Array Value) (w : World), (Instr.makeFunc fn first cap).run Tryd.prog w = .ok (.func fn first cap) w := fun _ _ _ _ => rfl
 have hsx := szC_eq x
 have hwlt : gw < w.heap.size := hst.walk.lt
 have hcon : ∀ (l m : List Co) (a1 a2 : Option Addr) (c1 c2 : Nat) (w1 : World) (g1 k1 : Nat), szCs l ≤ n → k1 + szCs l ≤ 50000 → (∀ e ∈ l, d + 1 + szC e ≤ 1000) → SameAt M gs gw k1 w1 → g1 ≠ gw → VarIs w1 g1 3 (.int .i64 d) → CoS w1 (Lc (· = gw) w1) (.slice a1 l.length c1) l → CoS w1 (Lc (· = gw) w1) (.slice a2 m.length c2) m →
   Calls Tryd.prog 47 #[.slice a1 l.length c1, .slice a2 m.length c2, .func (.func 45) #[] #[.pointer (some ⟨gs, 0, none⟩), .pointer (some ⟨g1, 0, none⟩)]] w1
   fun e w' => e = .returned (.bool (samesC l m)) ∧ Stay (· = gw) w1 w' ∧ ∃ k', k' ≤ k1 + szCs l ∧ SameAt M gs gw k' w' := fun l m a1 a2 c1 c2 w1 g1 k1 hl1 hl2 hl3 h2 h3 h4 h5 h6 => by
  have G : FnD (σ := Nat) (· = gw) (SameAt M gs gw) 45 #[.pointer (some ⟨gs, 0, none⟩), .pointer (some ⟨g1, 0, none⟩)] w1 (fun e _ t => szC e ≤ n ∧ t + szC e ≤ 50000 ∧ d + 1 + szC e ≤ 1000) sameC (fun e _ t t' => t' ≤ t + szC e) := by
   refine ⟨fun _ _ _ h hb => h.keep hb, fun _ _ => rfl, ?_⟩
   intro w2 v1 v2 e f t hs hv hpre he hf
   refine part_clo (z := sameC e f) (S := fun w' => Stay (· = gw) w2 w' ∧ ∃ k', k' ≤ t + szC e ∧ SameAt M gs gw k' w') e f v1 v2 w2 gs gw g1 d (by omega) hv.same (h4.stay hs h3) he.cv hf.cv fun w3 hb => ?_
   refine (ih e f v1 v2 w3 (d + 1) t hpre.1 hpre.2.1 hpre.2.2 (hv.keep hb) (he.below hb) (hf.below hb)).mono ?_
   rintro e' w4 ⟨he', hs4, t', ht', hv'⟩
   exact ⟨he', (Stay.of hb).trans hs4, t', ht', hv'⟩
  refine (equalc_any G (fun b h => by rw [h]; exact h2.walk.lt) l m a1 a2 c1 c2 w1 k1 .refl h2 h5 h6 fun _ j t hj hch => ?_).mono ?_
  ·
   have h7 := chain_sam (by omega) hch
   have h8 := szCs_snoc l j hj
   have h9 := szCs_le l (j + 1)
   exact ⟨by have := szCs_get l j hj; omega, by omega, hl3 _ (getC_mem hj)⟩
  ·
   rintro e w2 ⟨he, hs2, j, t, _, hj, hch, hv⟩
   exact ⟨by rw [he, samesC_all], hs2, t, by have := chain_sam hj hch; have := szCs_le l j; omega, hv⟩
 have h3p : ∀ e ∈ x.pairs, d + 1 + szC e ≤ 1000 := fun e he => by have := szC_pairs he; omega
 have h3f : ∀ e ∈ x.funs, d + 1 + szC e ≤ 1000 := fun e he => by have := szC_funs he; omega
 have hz := sameC_eq x y
 obtain ⟨pa, pc, fa, fc, rfl, hp, hf⟩ := hx.form
 obtain ⟨np, hnp⟩ : ∃ n, n = x.pairs.length := ⟨_, rfl⟩
 obtain ⟨nf, hnf⟩ : ∃ n, n = x.funs.length := ⟨_, rfl⟩
 obtain ⟨qa, qc, ga, gc, rfl, hq, hg⟩ := hy.form
 obtain ⟨mp, hmp⟩ : ∃ n, n = y.pairs.length := ⟨_, rfl⟩
 obtain ⟨mf, hmf⟩ : ∃ n, n = y.funs.length := ⟨_, rfl⟩
 rw [← hnp] at hp
 rw [← hnf] at hf
 rw [← hmp] at hq
 rw [← hmf] at hg
 rw [← hnp, ← hnf, ← hmp, ← hmf]
 obtain ⟨W, hW⟩ : ∃ W, W = ((w.alloc (.cells #[.int .i64 x.h.f0, .int .i64 x.h.f1, .int .i64 x.h.f2, .int .i64 x.h.f3, .int .i64 x.h.f4, .int .i64 x.h.f5, .int .i64 x.h.pair, .int .i64 x.h.pl, .slice pa np pc, .int .i64 x.h.fn, .int .i64 x.h.fl, .slice fa nf fc] 25)).alloc (.cells #[.int .i64 y.h.f0, .int .i64 y.h.f1, .int .i64 y.h.f2, .int .i64 y.h.f3, .int .i64 y.h.f4, .int .i64 y.h.f5, .int .i64 y.h.pair, .int .i64 y.h.pl, .slice qa mp qc, .int .i64 y.h.fn, .int .i64 y.h.fl, .slice ga mf gc] 25)).alloc (.cells #[.int .i64 (d : Int)] 3) := ⟨_, rfl⟩
 have hb0 : Below w.heap.size w W := by rw [hW]; exact ((bAl _ _).alloc (by simp) _).alloc (by simp; omega) _
 have HX := hid (show CBox W w.heap.size 25 ⟨x.h, .slice pa np pc, .slice fa nf fc⟩ by rw [hW]; exact ((CBox.made _ _ ⟨x.h, .slice pa np pc, .slice fa nf fc⟩).keep (bAl _ _)).keep (bAl _ _))
 have HY := hid (show CBox W (w.heap.size + 1) 25 ⟨y.h, .slice qa mp qc, .slice ga mf gc⟩ by rw [hW]; have := (CBox.made (w.alloc (.cells #[.int .i64 x.h.f0, .int .i64 x.h.f1, .int .i64 x.h.f2, .int .i64 x.h.f3, .int .i64 x.h.f4, .int .i64 x.h.f5, .int .i64 x.h.pair, .int .i64 x.h.pl, .slice pa np pc, .int .i64 x.h.fn, .int .i64 x.h.fl, .slice fa nf fc] 25)) 25 ⟨y.h, .slice qa mp qc, .slice ga mf gc⟩).keep ((Below.refl _ _).alloc (Nat.le_refl _) (.cells #[.int .i64 (d : Int)] 3)); simp only [alloc_hs7] at this; exact this)
 have HV := hid (show VarIs W (w.heap.size + 1 + 1) 3 (.int .i64 d) by rw [hW]; have := VarIs.made ((w.alloc (.cells #[.int .i64 x.h.f0, .int .i64 x.h.f1, .int .i64 x.h.f2, .int .i64 x.h.f3, .int .i64 x.h.f4, .int .i64 x.h.f5, .int .i64 x.h.pair, .int .i64 x.h.pl, .slice pa np pc, .int .i64 x.h.fn, .int .i64 x.h.fl, .slice fa nf fc] 25)).alloc (.cells #[.int .i64 y.h.f0, .int .i64 y.h.f1, .int .i64 y.h.f2, .int .i64 y.h.f3, .int .i64 y.h.f4, .int .i64 y.h.f5, .int .i64 y.h.pair, .int .i64 y.h.pl, .slice qa mp qc, .int .i64 y.h.fn, .int .i64 y.h.fl, .slice ga mf gc] 25)) 3 (.int .i64 d); simp only [alloc_hs7] at this; exact this)
 have HST := hid (hst.keep hb0)
 have HB := hid hb0
 have HP := hid hp
 have HF := hid hf
 have HQ := hid hq
 have HGG := hid hg
 have HNP := hid hnp
 have HNF := hid hnf
 have HMP := hid hmp
 have HMF := hid hmf
 have HCON := hid hcon
 have HZ := hid hz
 have H3P := hid h3p
 have H3F := hid h3f
 have HM := hid hM
 have HGS := hid hgs
 have HLT := hid hwlt
 have HBD := hid (show szC x ≤ n + 1 ∧ k + szC x ≤ 50000 ∧ d + szC x ≤ 1000 ∧ szC x = 1 + szCs x.pairs + szCs x.funs from ⟨hsz, hk, hd, hsx⟩)
 have HW := hid hW
 have hd2 : (d : Int) ≤ 1000 := by have := szC_pos x; omega
 clear hb0 hp hf hq hg hnp hnf hmp hmf hcon hz h3p h3f hM hgs hwlt hsz hk hd hsx hW hst hx hy ih
 have v0 := HV.out.c
 rw [HW.out] at v0
 go_enter Tryd.func44, Tryd.ntmps44
 go_wp2_with fail
 rw [← HW.out]
 refine (onc_any M gw k d W HST.out.walk (by have := HBD.out; have := HM.out; omega) HM.out.2 (by have := HBD.out; omega)).mono ?_
 rintro e w2 ⟨rfl, hs2, hw2⟩
 have HS2 := hid (show Stay (· = gw) w w2 from (Stay.of HB.out).trans hs2)
 have HX2 := hid (HX.out.stay hs2 (by have := HLT.out; omega))
 have HY2 := hid (HY.out.stay hs2 (by have := HLT.out; omega))
 have HV2 := hid (HV.out.stay hs2 (by have := HLT.out; omega))
 have HST2 := hid (show SameAt M gs gw (k + 1) w2 from ⟨hw2, HST.out.same.stay hs2 HGS.out⟩)
 clear hs2 hw2 v0
 obtain ⟨x0, x1, x2, x3, x4, x5, x6, x7, x8, x9, x10, x11⟩ := HX2.out.cs
 (try dsimp only at x0 x1 x2 x3 x4 x5 x6 x7 x8 x9 x10 x11)
 obtain ⟨y0, y1, y2, y3, y4, y5, y6, y7, y8, y9, y10, y11⟩ := HY2.out.cs
 (try dsimp only at y0 y1 y2 y3 y4 y5 y6 y7 y8 y9 y10 y11)
 have heq : ∀ w, (Op.equalIn 10000 22 (.agg #[.int .i64 x.h.f0, .int .i64 x.h.f1, .int .i64 x.h.f2, .int .i64 x.h.f3, .int .i64 x.h.f4, .int .i64 x.h.f5]) (.agg #[.int .i64 y.h.f0, .int .i64 y.h.f1, .int .i64 y.h.f2, .int .i64 y.h.f3, .int .i64 y.h.f4, .int .i64 y.h.f5])).run Tryd.prog w = .ok (six6 x.h.f0 x.h.f1 x.h.f2 x.h.f3 x.h.f4 x.h.f5 y.h.f0 y.h.f1 y.h.f2 y.h.f3 y.h.f4 y.h.f5) w := fun w => arr6_in w _ _ _ _ _ _ _ _ _ _ _ _
 obtain ⟨z6, hz6⟩ : ∃ z, z = six6 x.h.f0 x.h.f1 x.h.f2 x.h.f3 x.h.f4 x.h.f5 y.h.f0 y.h.f1 y.h.f2 y.h.f3 y.h.f4 y.h.f5 := ⟨_, rfl⟩
 rw [← hz6] at heq
 have HZ6 := hid hz6
 clear hz6
 cases z6 with
 | false =>
  have hz : sameC x y = false := by rw [HZ.out, decide_eq_false (fun h => by have h6 := HZ6.out; rw [h] at h6; simp [six6] at h6), Bool.false_and, Bool.false_and]
  have HZF := hid hz
  clear hz
  go_wp2
  go_ret
  exact ⟨ret_bool HZF.out.symm, HS2.out, k + 1, by have := HBD.out; omega, HST2.out⟩
 | true =>
  by_cases kp : x.h.pair = y.h.pair
  case neg =>
   have bp : (x.h.pair == y.h.pair) = false := beq_false_of_ne kp
   have Kp := hid kp
   clear kp
   have hz : sameC x y = false := by rw [HZ.out, decide_eq_false (fun h => Kp.out (by rw [h])), Bool.false_and, Bool.false_and]
   have HZF := hid hz
   clear hz
   go_wp2
   go_ret
   exact ⟨ret_bool HZF.out.symm, HS2.out, k + 1, by have := HBD.out; omega, HST2.out⟩
  have bp : (x.h.pair == y.h.pair) = true := by rw [kp]; exact beq_self_eq_true _
  have Kp := hid kp
  clear kp
  by_cases kl : x.h.pl = y.h.pl
  case neg =>
   have bl : (x.h.pl == y.h.pl) = false := beq_false_of_ne kl
   have Kl := hid kl
   clear kl
   have hz : sameC x y = false := by rw [HZ.out, decide_eq_false (fun h => Kl.out (by rw [h])), Bool.false_and, Bool.false_and]
   have HZF := hid hz
   clear hz
   go_wp2
   go_ret
   exact ⟨ret_bool HZF.out.symm, HS2.out, k + 1, by have := HBD.out; omega, HST2.out⟩
  have bl : (x.h.pl == y.h.pl) = true := by rw [kl]; exact beq_self_eq_true _
  have Kl := hid kl
  clear kl
  by_cases kq : x.h.fn = y.h.fn
  case neg =>
   have bq : (x.h.fn == y.h.fn) = false := beq_false_of_ne kq
   have Kq := hid kq
   clear kq
   have hz : sameC x y = false := by rw [HZ.out, decide_eq_false (fun h => Kq.out (by rw [h])), Bool.false_and, Bool.false_and]
   have HZF := hid hz
   clear hz
   go_wp2
   go_ret
   exact ⟨ret_bool HZF.out.symm, HS2.out, k + 1, by have := HBD.out; omega, HST2.out⟩
  have bq : (x.h.fn == y.h.fn) = true := by rw [kq]; exact beq_self_eq_true _
  have Kq := hid kq
  clear kq
  by_cases km : x.h.fl = y.h.fl
  case neg =>
   have bm : (x.h.fl == y.h.fl) = false := beq_false_of_ne km
   have Km := hid km
   clear km
   have hz : sameC x y = false := by rw [HZ.out, decide_eq_false (fun h => Km.out (by rw [h])), Bool.false_and, Bool.false_and]
   have HZF := hid hz
   clear hz
   go_wp2
   go_ret
   exact ⟨ret_bool HZF.out.symm, HS2.out, k + 1, by have := HBD.out; omega, HST2.out⟩
  have bm : (x.h.fl == y.h.fl) = true := by rw [km]; exact beq_self_eq_true _
  have Km := hid km
  clear km
  have HH := hid (show x.h = y.h from Hd.ext' (by have h6 := six6_iff.1 HZ6.out.symm; exact ⟨h6.1, h6.2.1, h6.2.2.1, h6.2.2.2.1, h6.2.2.2.2.1, h6.2.2.2.2.2, Kp.out, Kl.out, Kq.out, Km.out⟩))
  have HZ2 := hid (show sameC x y = (samesC x.pairs y.pairs && samesC x.funs y.funs) by rw [HZ.out, decide_eq_true HH.out, Bool.true_and])
  have HC3 := hid (HCON.out x.pairs y.pairs pa qa pc qc w2 (w.heap.size + 1 + 1) (k + 1) (by have := HBD.out; omega) (by have := HBD.out; omega) H3P.out HST2.out (by have := HLT.out; omega) HV2.out (CoSN.stay (by have := HP.out; rwa [HNP.out] at this) HS2.out) (CoSN.stay (by have := HQ.out; rwa [HMP.out] at this) HS2.out))
  rw [← HNP.out, ← HMP.out] at HC3
  generalize samesC x.pairs y.pairs = zp at HC3 HZ2
  go_wp2_with fail
  refine HC3.out.mono ?_
  rintro e w4 ⟨rfl, hs4, k4, hk4, hv4⟩
  have HS4 := hid (HS2.out.trans hs4)
  have HX4 := hid (HX2.out.stay hs4 (by have := HLT.out; omega))
  have HY4 := hid (HY2.out.stay hs4 (by have := HLT.out; omega))
  have HV4 := hid (HV2.out.stay hs4 (by have := HLT.out; omega))
  have HST4 := hid hv4
  have HK4 := hid hk4
  clear hs4 hk4 hv4 x0 y0 x1 y1 x2 y2 x3 y3 x4 y4 x5 y5 x6 y6 x7 y7 x8 y8 x9 y9 x10 y10 x11 y11
  cases zp with
  | false =>
   have HZF := hid (show sameC x y = false by rw [HZ2.out]; rfl)
   go_wp2
   go_ret
   exact ⟨ret_bool HZF.out.symm, HS4.out, k4, by have := HBD.out; have := HK4.out; omega, HST4.out⟩
  | true =>
   have HC5 := hid (HCON.out x.funs y.funs fa ga fc gc w4 (w.heap.size + 1 + 1) k4 (by have := HBD.out; omega) (by have := HBD.out; have := HK4.out; omega) H3F.out HST4.out (by have := HLT.out; omega) HV4.out (CoSN.stay (by have := HF.out; rwa [HNF.out] at this) HS4.out) (CoSN.stay (by have := HGG.out; rwa [HMF.out] at this) HS4.out))
   rw [← HNF.out, ← HMF.out] at HC5
   generalize samesC x.funs y.funs = zf at HC5 HZ2
   obtain ⟨x0, x1, x2, x3, x4, x5, x6, x7, x8, x9, x10, x11⟩ := HX4.out.cs
   (try dsimp only at x0 x1 x2 x3 x4 x5 x6 x7 x8 x9 x10 x11)
   obtain ⟨y0, y1, y2, y3, y4, y5, y6, y7, y8, y9, y10, y11⟩ := HY4.out.cs
   (try dsimp only at y0 y1 y2 y3 y4 y5 y6 y7 y8 y9 y10 y11)
   go_wp2_with fail
   refine HC5.out.mono ?_
   rintro e w5 ⟨rfl, hs5, k5, hk5, hv5⟩
   go_wp2
   go_ret
   exact ⟨ret_bool (by rw [HZ2.out]; rfl), HS4.out.trans hs5, k5, by have := HBD.out; have := HK4.out; omega, hv5⟩

theorem sam_any {M gs gw : Nat} (hM : 60000 ≤ M ∧ M ≤ 2147483647) (hgs : gs ≠ gw) (n : Nat) : SamOK M gs gw n := by
 induction n with
 | zero => intro x y vx vy w d k h; have := szC_pos x; omega
 | succ n ih => exact sam_succ hM hgs n ih

set_option maxRecDepth 100000 in
set_option maxHeartbeats 8000000 in
theorem same_p (x y : Co) (vx vy : Value) (w : World) (hsz : szC x ≤ 900) (hx : CoV w vx x) (hy : CoV w vy y) : Calls Tryd.prog 12 #[vx, vy] w fun e w' => e = .returned (.bool (sameC x y)) ∧ Below w.heap.size w w' := by
 have hmf0 : ∀ (fn : Fn) (first cap : Array Value) (w : World), (Instr.makeFunc fn first cap).run Tryd.prog w = .ok (.func fn first cap) w := fun _ _ _ _ => rfl
 have eg : ∀ (args : Array Value) (w : World), (callFunc 44 args).run Tryd.prog w = .ok (.enter 44 args) w := fun _ _ => rfl
 have hcall : ∀ w1 gs, Below w.heap.size w w1 → w.heap.size + 1 + 1 < gs → SameAt 2147483647 gs (w.heap.size + 1 + 1) 0 w1 →
   Calls Tryd.prog 44 #[vx, vy, .int .i64 0, .pointer (some ⟨gs, 0, none⟩), .pointer (some ⟨w.heap.size + 1 + 1, 0, none⟩)] w1
   fun e w' => e = .returned (.bool (sameC x y)) ∧ Below w.heap.size w w' := fun w1 gs hb hgs hv => by
  refine (sam_any (M := 2147483647) (gs := gs) (gw := w.heap.size + 1 + 1) (by omega) (by omega) (szC x) x y vx vy w1 0 0 (Nat.le_refl _) (by omega) (by omega) hv (hx.later hb fun b h => .inr (by omega)) (hy.later hb fun b h => .inr (by omega))).mono ?_
  rintro e w2 ⟨he, hst, _⟩
  exact ⟨he, (Stay.trans (N := (· = w.heap.size + 1 + 1)) (.of hb) hst).below (Nat.le_refl _) fun k hk => by omega⟩
 obtain ⟨pa, pc, fa, fc, rfl, hp, hf⟩ := hx.form
 obtain ⟨np, hnp⟩ : ∃ n, n = x.pairs.length := ⟨_, rfl⟩
 obtain ⟨nf, hnf⟩ : ∃ n, n = x.funs.length := ⟨_, rfl⟩
 obtain ⟨qa, qc, ga, gc, rfl, hq, hg⟩ := hy.form
 obtain ⟨mp, hmp⟩ : ∃ n, n = y.pairs.length := ⟨_, rfl⟩
 obtain ⟨mf, hmf⟩ : ∃ n, n = y.funs.length := ⟨_, rfl⟩
 generalize sameC x y = z at hcall ⊢
 rw [← hnp, ← hnf, ← hmp, ← hmf] at hcall ⊢
 obtain ⟨W3, hW3⟩ : ∃ W, W = ((w.alloc (.cells #[.int .i64 x.h.f0, .int .i64 x.h.f1, .int .i64 x.h.f2, .int .i64 x.h.f3, .int .i64 x.h.f4, .int .i64 x.h.f5, .int .i64 x.h.pair, .int .i64 x.h.pl, .slice pa np pc, .int .i64 x.h.fn, .int .i64 x.h.fl, .slice fa nf fc] 25)).alloc (.cells #[.int .i64 y.h.f0, .int .i64 y.h.f1, .int .i64 y.h.f2, .int .i64 y.h.f3, .int .i64 y.h.f4, .int .i64 y.h.f5, .int .i64 y.h.pair, .int .i64 y.h.pl, .slice qa mp qc, .int .i64 y.h.fn, .int .i64 y.h.fl, .slice ga mf gc] 25)).alloc (.cells #[.int .i64 2147483647] 58) := ⟨_, rfl⟩
 have hs3 : W3.heap.size = w.heap.size + 1 + 1 + 1 := by rw [hW3]; simp
 have hb3 : Below w.heap.size w W3 := by rw [hW3]; exact ((bAl _ _).alloc (by simp) _).alloc (by simp; omega) _
 obtain ⟨W, hW⟩ : ∃ W, W = W3.alloc (.cells #[(.func (.func 44) #[] #[.pointer (some ⟨W3.heap.size, 0, none⟩), .pointer (some ⟨w.heap.size + 1 + 1, 0, none⟩)])] 44) := ⟨_, rfl⟩
 have hb3W : Below W3.heap.size W3 W := by rw [hW]; exact bAl _ _
 have hbw : Below w.heap.size w W := hb3.trans (hb3W.mono hb3.size)
 have hx3 : CBox W3 w.heap.size 25 ⟨x.h, .slice pa np pc, .slice fa nf fc⟩ := by
  rw [hW3]; exact ((CBox.made w 25 ⟨x.h, .slice pa np pc, .slice fa nf fc⟩).keep (bAl _ _)).keep (bAl _ _)
 have hy3 : CBox W3 (w.heap.size + 1) 25 ⟨y.h, .slice qa mp qc, .slice ga mf gc⟩ := by
  rw [hW3]; have := (CBox.made (w.alloc (.cells #[.int .i64 x.h.f0, .int .i64 x.h.f1, .int .i64 x.h.f2, .int .i64 x.h.f3, .int .i64 x.h.f4, .int .i64 x.h.f5, .int .i64 x.h.pair, .int .i64 x.h.pl, .slice pa np pc, .int .i64 x.h.fn, .int .i64 x.h.fl, .slice fa nf fc] 25)) 25 ⟨y.h, .slice qa mp qc, .slice ga mf gc⟩).keep ((Below.refl _ _).alloc (Nat.le_refl _) (.cells #[.int .i64 2147483647] 58)); simp only [alloc_hs7] at this; exact this
 have hva : SameAt 2147483647 W3.heap.size (w.heap.size + 1 + 1) 0 W := by
  refine ⟨?_, ?_⟩
  ·
   refine WalkC.keep ?_ hb3W
   rw [hW3]
   have := VarIs.made ((w.alloc (.cells #[.int .i64 x.h.f0, .int .i64 x.h.f1, .int .i64 x.h.f2, .int .i64 x.h.f3, .int .i64 x.h.f4, .int .i64 x.h.f5, .int .i64 x.h.pair, .int .i64 x.h.pl, .slice pa np pc, .int .i64 x.h.fn, .int .i64 x.h.fl, .slice fa nf fc] 25)).alloc (.cells #[.int .i64 y.h.f0, .int .i64 y.h.f1, .int .i64 y.h.f2, .int .i64 y.h.f3, .int .i64 y.h.f4, .int .i64 y.h.f5, .int .i64 y.h.pair, .int .i64 y.h.pl, .slice qa mp qc, .int .i64 y.h.fn, .int .i64 y.h.fl, .slice ga mf gc] 25)) 58 (.int .i64 2147483647)
   simp only [alloc_hs7] at this; exact this
  ·
   rw [hW]; exact VarIs.made _ _ _
 have hq1 : w.heap.size < W3.heap.size := by omega
 have hq2 : w.heap.size + 1 < W3.heap.size := by omega
 have HC := hid (hcall W W3.heap.size hbw (by omega) hva)
 have HX3 := hid hx3
 have HY3 := hid hy3
 have HW3 := hid hW3
 have HW := hid hW
 clear hcall hW hbw hva hb3W hb3 hs3 hW3 hx3 hy3 hx hy hsz hp hf hq hg hnp hnf hmp hmf
 go_enter Tryd.func12, Tryd.ntmps12
 go_upto_region 2 with fail
 rw [← HW3.out]
 obtain ⟨x0, x1, x2, x3, x4, x5, x6, x7, x8, x9, x10, x11⟩ := HX3.out.cs
 (try dsimp only at x0 x1 x2 x3 x4 x5 x6 x7 x8 x9 x10 x11)
 obtain ⟨y0, y1, y2, y3, y4, y5, y6, y7, y8, y9, y10, y11⟩ := HY3.out.cs
 (try dsimp only at y0 y1 y2 y3 y4 y5 y6 y7 y8 y9 y10 y11)
 go_wp2_with fail
 rw [← HW.out]
 refine HC.out.mono ?_
 rintro e w2 ⟨rfl, hs2⟩
 go_wp2
 go_ret
 exact ⟨rfl, hs2⟩
end Go.Proofs.YtlalnkabfigodaaDoor
