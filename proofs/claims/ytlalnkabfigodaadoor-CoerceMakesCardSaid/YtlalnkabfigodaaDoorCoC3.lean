import Derived.Test.YtlalnkabfigodaaDoorCoC2
namespace Go.Proofs.YtlalnkabfigodaaDoor
open Go.Lib (hid)
open Go.RowKit

def rowF (n : Nat) (c d : Co) : List Co := ((List.range (c.funs.length - 1)).map fun i => compF n (d.funs.getD i co0) (c.funs.getD i co0)) ++ [compF n (c.funs.getD (c.funs.length - 1) co0) (d.funs.getD (c.funs.length - 1) co0)]
def compFn (n : Nat) (c d : Co) : Int × Int × List Co := if c.h.fn = 1 ∨ d.h.fn = 0 then (c.h.fn, c.h.fl, c.funs) else if d.h.fn = 1 ∨ c.h.fn = 0 then (d.h.fn, d.h.fl, d.funs) else
 if c.h.fn = 3 ∨ d.h.fn = 3 ∨ c.funs.length ≠ d.funs.length then (3, 0, []) else (2, 0, rowF n c d)
/-- what the first j of the composed procedures' parts cost -/
def sumF (c d : Co) (j : Nat) : Nat := ((List.range j).map fun i => szC (d.funs.getD i co0) * szC (c.funs.getD i co0)).sum
theorem sumF_succ (c d : Co) (j : Nat) : sumF c d (j + 1) = sumF c d j + szC (d.funs.getD j co0) * szC (c.funs.getD j co0) := by
 unfold sumF
 rw [List.range_succ, List.map_append, List.sum_append]
 simp
theorem sumF_mono (c d : Co) (i j : Nat) (h : i ≤ j) : sumF c d i ≤ sumF c d j := by
 induction j with
 | zero =>
  obtain rfl : i = 0 := by omega
  exact Nat.le_refl _
 | succ j ih =>
  by_cases e : i = j + 1
  ·
   rw [e]; exact Nat.le_refl _
  ·
   have := ih (by omega); rw [sumF_succ]; omega
theorem sumF_le (c d : Co) (j : Nat) (h1 : j ≤ c.funs.length) (h2 : j ≤ d.funs.length) : sumF c d j ≤ both7 (szCs c.funs) (szCs d.funs) := by
 have h := funs_cost d.funs c.funs j h2 h1
 have h3 := mul_le7 (szCs_le d.funs j) (szCs_le c.funs j)
 unfold both7 sumF
 rw [Nat.mul_comm (szCs c.funs)]
 omega
/-- the i-th of the composed parts -/
def partF (n : Nat) (c d : Co) (m i : Nat) : Co := if i = m then compF n (c.funs.getD i co0) (d.funs.getD i co0) else compF n (d.funs.getD i co0) (c.funs.getD i co0)
theorem rowF_eq (n : Nat) (c d : Co) (L : List Co) (m : Nat) (hm : c.funs.length = m + 1) (hL : L.length = m + 1) (h : ∀ i, i < m + 1 → L.getD i co0 = partF n c d m i) : L = rowF n c d := by
 unfold rowF
 rw [hm, Nat.add_sub_cancel]
 refine List.ext_getElem (by simp [hL]) fun i h1 h2 => ?_
 have h3 := h i (by omega)
 rw [List.getD_eq_getElem?_getD, List.getElem?_eq_getElem h1] at h3
 have h4 : L[i] = partF n c d m i := h3
 rw [h4, List.getElem_append]
 unfold partF
 split
 ·
  rename_i e
  rw [dif_neg (by simp; omega)]
  simp [e]
 ·
  rename_i e
  have hi : i < m := by omega
  rw [dif_pos (by simpa using hi)]
  simp

theorem VarIs.setA {w : World} {c g o : Nat} {T : TypeId} {v : Value} {r : RawC} (h : VarIs w c T v) (hne : c ≠ g) : VarIs (Go.Proofs.YtlalnkabfigodaaDoor.setA w g o r) c T v := (VarIs.off (VarIs.off (VarIs.off (VarIs.off (VarIs.off (VarIs.off (VarIs.off (VarIs.off (VarIs.off (VarIs.off (VarIs.off (VarIs.off h hne (i := o) (x := .int .i64 r.h.f0)) hne (i := o + 1) (x := .int .i64 r.h.f1)) hne (i := o + 2) (x := .int .i64 r.h.f2)) hne (i := o + 3) (x := .int .i64 r.h.f3)) hne (i := o + 4) (x := .int .i64 r.h.f4)) hne (i := o + 5) (x := .int .i64 r.h.f5)) hne (i := o + 6) (x := .int .i64 r.h.pair)) hne (i := o + 7) (x := .int .i64 r.h.pl)) hne (i := o + 8) (x := r.pv)) hne (i := o + 9) (x := .int .i64 r.h.fn)) hne (i := o + 10) (x := .int .i64 r.h.fl)) hne (i := o + 11) (x := r.fv))

set_option maxRecDepth 100000 in
set_option maxHeartbeats 32000000 in
theorem cfuns_p (M n : Nat) (hM : M ≤ 2147483647) (ih : CompOK M n) (c d : Co) (vc vd : Value) (w : World) (cw k e : Nat) (oc : okC c) (od : okC d) (hht : htC c + htC d ≤ n + 1) (hk : k + both7 (szCs c.funs) (szCs d.funs) ≤ M) (he : e + n + 1 ≤ 131000) (hT : TzW w) (hw : WalkC M cw k w) (hc : CoVN (· = cw) w vc c) (hd : CoVN (· = cw) w vd d) :
  Calls Tryd.prog 89 #[.pointer (some ⟨cw, 0, none⟩), vc, vd, .int .i64 e] w (PrPost M cw k (both7 (szCs c.funs) (szCs d.funs)) (compFn n c d).1 (compFn n c d).2.1 (compFn n c d).2.2 w) := by
 have sc := oc.shape
 have sd := od.shape
 have hcw := hw.lt
 have hne := hT.walk hw
 have hhc := htC_eq c
 have hhd := htC_eq d
 have hcpc : ∀ (pa : Option Addr) (pc : Nat) (w1 : World), WalkC M cw k w1 → CoS w1 (Lc (· = cw) w1) (.slice pa c.funs.length pc) c.funs → Calls Tryd.prog 93 #[.pointer (some ⟨cw, 0, none⟩), .slice pa c.funs.length pc, .int .i64 e] w1 fun e w' => (∃ v, e = .returned v ∧ CoS w' (Lc (Old w1.heap.size) w') v c.funs) ∧ Stay (· = cw) w1 w' ∧ ∃ k', k' ≤ k + both7 (szCs c.funs) (szCs d.funs) ∧ WalkC M cw k' w' := fun pa pc w1 h1 h2 => by
  have hl : szCs c.funs ≤ both7 (szCs c.funs) (szCs d.funs) := by unfold both7; omega
  refine (copies_of M _ (copied_any M hM _) c.funs pa pc w1 cw k e (Nat.le_refl _) (by omega) (by have := htC_pos d; omega) (by have := sc.thin.len; omega) (fun x hx => sc.thin.fun hx) h1 h2).mono ?_
  rintro e w2 ⟨h3, h4, k', h5, h6⟩
  exact ⟨h3, h4, k', by omega, h6⟩
 have hcpd : ∀ (pa : Option Addr) (pc : Nat) (w1 : World), WalkC M cw k w1 → CoS w1 (Lc (· = cw) w1) (.slice pa d.funs.length pc) d.funs → Calls Tryd.prog 93 #[.pointer (some ⟨cw, 0, none⟩), .slice pa d.funs.length pc, .int .i64 e] w1 fun e w' => (∃ v, e = .returned v ∧ CoS w' (Lc (Old w1.heap.size) w') v d.funs) ∧ Stay (· = cw) w1 w' ∧ ∃ k', k' ≤ k + both7 (szCs c.funs) (szCs d.funs) ∧ WalkC M cw k' w' := fun pa pc w1 h1 h2 => by
  have hl : szCs d.funs ≤ both7 (szCs c.funs) (szCs d.funs) := by unfold both7; omega
  refine (copies_of M _ (copied_any M hM _) d.funs pa pc w1 cw k e (Nat.le_refl _) (by omega) (by have := htC_pos c; omega) (by have := sd.thin.len; omega) (fun x hx => sd.thin.fun hx) h1 h2).mono ?_
  rintro e w2 ⟨h3, h4, k', h5, h6⟩
  exact ⟨h3, h4, k', by omega, h6⟩
 have hls := fun j h1 h2 => sumF_le c d j h1 h2
 obtain ⟨cost, hcost⟩ : ∃ x, x = both7 (szCs c.funs) (szCs d.funs) := ⟨_, rfl⟩
 rw [← hcost] at hk hcpc hcpd hls ⊢
 have hca : ∀ (m i : Nat), c.funs.length = m + 1 → d.funs.length = m + 1 → i < m + 1 → ∀ (w1 : World) (u v : Value) (k1 : Nat), k1 ≤ k + sumF c d i → Stay (· = cw) w w1 → WalkC M cw k1 w1 → CoVN (· = cw) w1 u (if i = m then c.funs.getD i co0 else d.funs.getD i co0) → CoVN (· = cw) w1 v (if i = m then d.funs.getD i co0 else c.funs.getD i co0) →
   Calls Tryd.prog 63 #[.pointer (some ⟨cw, 0, none⟩), u, v, .int .i64 ((e : Int) + 1)] w1 fun e w' => (∃ v, e = .returned v ∧ CoVN (Old w1.heap.size) w' v (partF n c d m i)) ∧ Stay (· = cw) w1 w' ∧ ∃ k', k' ≤ k + sumF c d (i + 1) ∧ WalkC M cw k' w' := fun m i hm1 hm2 hi w1 u v k1 h3 h4 h5 h6 h7 => by
  have hxm := getC_mem (l := c.funs) (j := i) (by omega)
  have hym := getC_mem (l := d.funs) (j := i) (by omega)
  have a1 := htC_funs hxm
  have a2 := htC_funs hym
  have a3 := hls (i + 1) (by omega) (by omega)
  have a4 := sumF_succ c d i
  by_cases hl : i = m
  ·
   rw [if_pos hl] at h6 h7
   have e1 : partF n c d m i = compF n (c.funs.getD i co0) (d.funs.getD i co0) := by unfold partF; rw [if_pos hl]
   have e2 : szC (c.funs.getD i co0) * szC (d.funs.getD i co0) = szC (d.funs.getD i co0) * szC (c.funs.getD i co0) := Nat.mul_comm _ _
   refine (ih _ _ u v w1 cw k1 (e + 1) (oc.fun hxm) (od.fun hym) (by omega) (by omega) (by omega) (hT.stay h4 (Ne.symm hne)) h5 h6 h7).mono ?_
   rintro e w2 ⟨h8, h9, k', h10, h11⟩
   rw [e1]
   exact ⟨h8, h9, k', by omega, h11⟩
  ·
   rw [if_neg hl] at h6 h7
   have e1 : partF n c d m i = compF n (d.funs.getD i co0) (c.funs.getD i co0) := by unfold partF; rw [if_neg hl]
   refine (ih _ _ u v w1 cw k1 (e + 1) (od.fun hym) (oc.fun hxm) (by omega) (by omega) (by omega) (hT.stay h4 (Ne.symm hne)) h5 h6 h7).mono ?_
   rintro e w2 ⟨h8, h9, k', h10, h11⟩
   rw [e1]
   exact ⟨h8, h9, k', by omega, h11⟩
 obtain ⟨P, hP⟩ : ∃ P, P = compFn n c d := ⟨_, rfl⟩
 rw [← hP]
 unfold compFn at hP
 have hoc := sc.own
 have hod := sd.own
 obtain ⟨pa, pc, fa, fc, rfl, hp, hf⟩ := hc.form
 obtain ⟨np, hnp⟩ : ∃ n, n = c.pairs.length := ⟨_, rfl⟩
 obtain ⟨nf, hnf⟩ : ∃ n, n = c.funs.length := ⟨_, rfl⟩
 obtain ⟨qa, qc, ga, gc, rfl, hq, hg⟩ := hd.form
 obtain ⟨mp, hmp⟩ : ∃ n, n = d.pairs.length := ⟨_, rfl⟩
 obtain ⟨mf, hmf⟩ : ∃ n, n = d.funs.length := ⟨_, rfl⟩
 have hcpc := hcpc fa fc
 have hcpd := hcpd ga gc
 rw [← hnf] at hf hcpc
 rw [← hmf] at hg hcpd
 rw [← hnp, ← hnf]
 rw [← hmp, ← hmf]
 obtain ⟨W, hW⟩ : ∃ W, W = (w.alloc (.cells #[.int .i64 c.h.f0, .int .i64 c.h.f1, .int .i64 c.h.f2, .int .i64 c.h.f3, .int .i64 c.h.f4, .int .i64 c.h.f5, .int .i64 c.h.pair, .int .i64 c.h.pl, .slice pa np pc, .int .i64 c.h.fn, .int .i64 c.h.fl, .slice fa nf fc] 25)).alloc (.cells #[.int .i64 d.h.f0, .int .i64 d.h.f1, .int .i64 d.h.f2, .int .i64 d.h.f3, .int .i64 d.h.f4, .int .i64 d.h.f5, .int .i64 d.h.pair, .int .i64 d.h.pl, .slice qa mp qc, .int .i64 d.h.fn, .int .i64 d.h.fl, .slice ga mf gc] 25) := ⟨_, rfl⟩
 have hb : Below w.heap.size w W := by rw [hW]; exact (bAl _ _).alloc (by simp) _
 have HXC := hid (show CBox W w.heap.size 25 ⟨c.h, .slice pa np pc, .slice fa nf fc⟩ by rw [hW]; exact (CBox.made w 25 ⟨c.h, .slice pa np pc, .slice fa nf fc⟩).keep (bAl _ _))
 have HXD := hid (show CBox W (w.heap.size + 1) 25 ⟨d.h, .slice qa mp qc, .slice ga mf gc⟩ by rw [hW]; have := CBox.made (w.alloc (.cells #[.int .i64 c.h.f0, .int .i64 c.h.f1, .int .i64 c.h.f2, .int .i64 c.h.f3, .int .i64 c.h.f4, .int .i64 c.h.f5, .int .i64 c.h.pair, .int .i64 c.h.pl, .slice pa np pc, .int .i64 c.h.fn, .int .i64 c.h.fl, .slice fa nf fc] 25)) 25 ⟨d.h, .slice qa mp qc, .slice ga mf gc⟩; simp only [alloc_hs7] at this; exact this)
 have HSZ := hid (show W.heap.size = w.heap.size + 2 by rw [hW]; simp)
 have HB := hid hb
 have HS := hid (Stay.of (N := (· = cw)) hb)
 have HWK := hid (hw.keep hb)
 have HCW := hid hcw
 have HCF := hid (CoSN.below hf hb)
 have HDF := hid (CoSN.below hg hb)
 have HCPC := hid hcpc
 have HCPD := hid hcpd
 have HCA := hid hca
 have HLS := hid hls
 have HOC := hid hoc
 have HOD := hid hod
 have HNF := hid hnf
 have HMF := hid hmf
 have HP := hid hP
 have HW := hid hW
 have he2 : (e : Int) ≤ 131000 := by omega
 have hwr : IntKind.i64.wrap ((e : Int) + 1) = (e : Int) + 1 := by rw [IntKind.wrap_i64]; omega
 clear hb hcpc hcpd hca hls hoc hod hP hW hcw hne hhc hhd hcost hk he hT hw hc hd hht sc sd oc od hM ih hp hf hq hg hnp hnf hmp hmf
 obtain ⟨x0, x1, x2, x3, x4, x5, x6, x7, x8, x9, x10, x11⟩ := HXC.out.cs
 (try dsimp only at x0 x1 x2 x3 x4 x5 x6 x7 x8 x9 x10 x11)
 obtain ⟨y0, y1, y2, y3, y4, y5, y6, y7, y8, y9, y10, y11⟩ := HXD.out.cs
 (try dsimp only at y0 y1 y2 y3 y4 y5 y6 y7 y8 y9 y10 y11)
 go_enter Tryd.func89, Tryd.ntmps89
 go_upto_region 1 with fail
 rw [← HW.out]
 clear HW
 by_cases a1 : c.h.fn = 1
 ·
  have b1 : (c.h.fn == 1) = true := by rw [a1]; rfl
  have HCOND := hid (show c.h.fn = 1 ∨ d.h.fn = 0 from .inl a1)
  clear a1
  have HPX := hid (show P = (c.h.fn, c.h.fl, c.funs) by rw [HP.out, if_pos HCOND.out])
  go_upto_region 2 with fail
  (try dsimp only [List.append])
  refine wp_region_noPanic ?_
  refine wp_region_held_drew (S := (fun w' => w'.cell? ⟨w.heap.size, 9, none⟩ = some (.int .i64 c.h.fn) ∧ w'.cell? ⟨w.heap.size, 10, none⟩ = some (.int .i64 c.h.fl) ∧ w'.cell? ⟨w.heap.size, 11, none⟩ = some (.slice fa nf fc))) (by kernel_rfl) (by (try dsimp only); exact ⟨(HXC.out.keep (Below.refl W.heap.size W).drew).c9, (HXC.out.keep (Below.refl W.heap.size W).drew).c10, (HXC.out.keep (Below.refl W.heap.size W).drew).c11⟩) (fun hHeld => ?_)
  have hdr : Below W.heap.size W W.drew := (Below.refl _ _).drew
  have HXE := hid (HXC.out.keep hdr)
  have HSE := hid (HS.out.then hdr)
  have HWE := hid (HWK.out.keep hdr)
  have HPE := hid (CoSN.below HCF.out hdr)
  have HDZ := hid hdr.size
  clear hdr
  generalize W.drew = wd at hHeld HXE HSE HWE HPE HDZ ⊢
  refine' tk_q 0 23 hHeld ?hi0 ?hr0
  case hi0 => (refine ⟨_, rfl, rfl, rfl, fun w hSw => ?_⟩; (try dsimp only at hSw); go_simp; (try with_reducible rfl))
  (try simp only [pq1, ls0, ls1])
  refine' tk_q 1 24 hHeld ?hi1 ?hr1
  case hi1 => (refine ⟨_, rfl, rfl, rfl, fun w hSw => ?_⟩; (try dsimp only at hSw); go_simp; (try with_reducible rfl))
  (try simp only [pq1, ls0, ls1])
  refine' tk_q 2 25 hHeld ?hi2 ?hr2
  case hi2 => (refine ⟨_, rfl, rfl, rfl, fun w hSw => ?_⟩; (try dsimp only at hSw); go_simp; (try with_reducible rfl))
  (try simp only [pq1, ls0, ls1])
  refine' tk_q 3 26 hHeld ?hi3 ?hr3
  case hi3 => (refine ⟨_, rfl, rfl, rfl, fun w hSw => ?_⟩; (try dsimp only at hSw); go_simp; (try with_reducible rfl))
  (try simp only [pq1, ls0, ls1])
  refine' tk_q 4 27 hHeld ?hi4 ?hr4
  case hi4 => (refine ⟨_, rfl, rfl, rfl, fun w hSw => ?_⟩; (try dsimp only at hSw); go_simp; (try with_reducible rfl))
  (try simp only [pq1, ls0, ls1])
  refine' tk_q 5 28 hHeld ?hi5 ?hr5
  case hi5 => (refine ⟨_, rfl, rfl, rfl, fun w hSw => ?_⟩; (try dsimp only at hSw); go_simp; (try with_reducible rfl))
  (try simp only [pq1, ls0, ls1])
  refine' tk_q 6 29 hHeld ?hi6 ?hr6
  case hi6 => (refine ⟨_, rfl, rfl, rfl, fun w hSw => ?_⟩; (try dsimp only at hSw); go_simp; (try with_reducible rfl))
  (try simp only [pq1, ls0, ls1])
  refine' tk_q 7 30 hHeld ?hi7 ?hr7
  case hi7 => (refine ⟨_, rfl, rfl, rfl, fun w hSw => ?_⟩; (try dsimp only at hSw); go_simp; (try with_reducible rfl))
  (try simp only [pq1, ls0, ls1])
  refine' tk_call 8 ?hi8 (by kernel_rfl) ?hr8
  case hi8 => rfl
  intro K hK
  go_simp
  go_at_call 93
  refine (HCPC.out wd HWE.out HPE.out).mono ?_
  rintro e2 w2 ⟨⟨v, rfl, hv⟩, hs2, hk2⟩
  have HV := hid hv
  have HS2 := hid (HSE.out.trans hs2)
  have HK2 := hid hk2
  have HX2 := hid (HXE.out.stay hs2 (by have := HCW.out; omega))
  clear hv hs2 hk2
  go_wp2_with fail
  clear hHeld
  refine hK.out _ _ (by (try dsimp only); exact ⟨HX2.out.c9, HX2.out.c10, HX2.out.c11⟩) (fun hHeld => ?_)
  clear hK K
  (try simp only [pq1, ls0, ls1])
  refine' tk_q 9 8 hHeld ?hi9 ?hr9
  case hi9 => (refine ⟨_, rfl, rfl, rfl, fun w hSw => ?_⟩; (try dsimp only at hSw); go_simp; (try with_reducible rfl))
  (try simp only [pq1, ls0, ls1])
  refine' tk_q 10 9 hHeld ?hia ?hra
  case hia => (refine ⟨_, rfl, rfl, rfl, fun w hSw => ?_⟩; (try dsimp only at hSw); go_simp; (try with_reducible rfl))
  (try simp only [pq1, ls0, ls1])
  refine' tk_q 11 10 hHeld ?hib ?hrb
  case hib => (refine ⟨_, rfl, rfl, rfl, fun w hSw => ?_⟩; (try dsimp only at hSw); go_simp; (try with_reducible rfl))
  (try simp only [pq1, ls0, ls1])
  refine wpAnyH_done (by kernel_rfl) ?_ _
  refine NoPanic.normal ?_
  go_wp2
  refine bodyPost_ret (v := .tuple #[.int .i64 c.h.fn, .int .i64 c.h.fl, v]) ?_ ?_ ?_
  ·
   simp [results, Tryd.results89, go_sem]
  ·
   rfl
  ·
   refine ⟨⟨v, ?_, ?_⟩, HS2.out, HK2.out⟩
   ·
    rw [HPX.out]
   ·
    rw [HPX.out]; exact CoSN.mono HV.out fun b _ h => Nat.lt_of_lt_of_le h (Nat.le_trans HB.out.size HDZ.out)
 have b1 : (c.h.fn == 1) = false := beq_false_of_ne a1
 by_cases a2 : d.h.fn = 0
 ·
  have b2 : (d.h.fn == 0) = true := by rw [a2]; rfl
  have HCOND := hid (show c.h.fn = 1 ∨ d.h.fn = 0 from .inr a2)
  clear a1 a2
  have HPX := hid (show P = (c.h.fn, c.h.fl, c.funs) by rw [HP.out, if_pos HCOND.out])
  go_upto_region 2 with fail
  (try dsimp only [List.append])
  refine wp_region_noPanic ?_
  refine wp_region_held_drew (S := (fun w' => w'.cell? ⟨w.heap.size, 9, none⟩ = some (.int .i64 c.h.fn) ∧ w'.cell? ⟨w.heap.size, 10, none⟩ = some (.int .i64 c.h.fl) ∧ w'.cell? ⟨w.heap.size, 11, none⟩ = some (.slice fa nf fc))) (by kernel_rfl) (by (try dsimp only); exact ⟨(HXC.out.keep (Below.refl W.heap.size W).drew).c9, (HXC.out.keep (Below.refl W.heap.size W).drew).c10, (HXC.out.keep (Below.refl W.heap.size W).drew).c11⟩) (fun hHeld => ?_)
  have hdr : Below W.heap.size W W.drew := (Below.refl _ _).drew
  have HXE := hid (HXC.out.keep hdr)
  have HSE := hid (HS.out.then hdr)
  have HWE := hid (HWK.out.keep hdr)
  have HPE := hid (CoSN.below HCF.out hdr)
  have HDZ := hid hdr.size
  clear hdr
  generalize W.drew = wd at hHeld HXE HSE HWE HPE HDZ ⊢
  refine' tk_q 0 23 hHeld ?hic ?hrc
  case hic => (refine ⟨_, rfl, rfl, rfl, fun w hSw => ?_⟩; (try dsimp only at hSw); go_simp; (try with_reducible rfl))
  (try simp only [pq1, ls0, ls1])
  refine' tk_q 1 24 hHeld ?hid ?hrd
  case hid => (refine ⟨_, rfl, rfl, rfl, fun w hSw => ?_⟩; (try dsimp only at hSw); go_simp; (try with_reducible rfl))
  (try simp only [pq1, ls0, ls1])
  refine' tk_q 2 25 hHeld ?hie ?hre
  case hie => (refine ⟨_, rfl, rfl, rfl, fun w hSw => ?_⟩; (try dsimp only at hSw); go_simp; (try with_reducible rfl))
  (try simp only [pq1, ls0, ls1])
  refine' tk_q 3 26 hHeld ?hif ?hrf
  case hif => (refine ⟨_, rfl, rfl, rfl, fun w hSw => ?_⟩; (try dsimp only at hSw); go_simp; (try with_reducible rfl))
  (try simp only [pq1, ls0, ls1])
  refine' tk_q 4 27 hHeld ?hig ?hrg
  case hig => (refine ⟨_, rfl, rfl, rfl, fun w hSw => ?_⟩; (try dsimp only at hSw); go_simp; (try with_reducible rfl))
  (try simp only [pq1, ls0, ls1])
  refine' tk_q 5 28 hHeld ?hih ?hrh
  case hih => (refine ⟨_, rfl, rfl, rfl, fun w hSw => ?_⟩; (try dsimp only at hSw); go_simp; (try with_reducible rfl))
  (try simp only [pq1, ls0, ls1])
  refine' tk_q 6 29 hHeld ?hii ?hri
  case hii => (refine ⟨_, rfl, rfl, rfl, fun w hSw => ?_⟩; (try dsimp only at hSw); go_simp; (try with_reducible rfl))
  (try simp only [pq1, ls0, ls1])
  refine' tk_q 7 30 hHeld ?hij ?hrj
  case hij => (refine ⟨_, rfl, rfl, rfl, fun w hSw => ?_⟩; (try dsimp only at hSw); go_simp; (try with_reducible rfl))
  (try simp only [pq1, ls0, ls1])
  refine' tk_call 8 ?hik (by kernel_rfl) ?hrk
  case hik => rfl
  intro K hK
  go_simp
  go_at_call 93
  refine (HCPC.out wd HWE.out HPE.out).mono ?_
  rintro e2 w2 ⟨⟨v, rfl, hv⟩, hs2, hk2⟩
  have HV := hid hv
  have HS2 := hid (HSE.out.trans hs2)
  have HK2 := hid hk2
  have HX2 := hid (HXE.out.stay hs2 (by have := HCW.out; omega))
  clear hv hs2 hk2
  go_wp2_with fail
  clear hHeld
  refine hK.out _ _ (by (try dsimp only); exact ⟨HX2.out.c9, HX2.out.c10, HX2.out.c11⟩) (fun hHeld => ?_)
  clear hK K
  (try simp only [pq1, ls0, ls1])
  refine' tk_q 9 8 hHeld ?hil ?hrl
  case hil => (refine ⟨_, rfl, rfl, rfl, fun w hSw => ?_⟩; (try dsimp only at hSw); go_simp; (try with_reducible rfl))
  (try simp only [pq1, ls0, ls1])
  refine' tk_q 10 9 hHeld ?him ?hrm
  case him => (refine ⟨_, rfl, rfl, rfl, fun w hSw => ?_⟩; (try dsimp only at hSw); go_simp; (try with_reducible rfl))
  (try simp only [pq1, ls0, ls1])
  refine' tk_q 11 10 hHeld ?hin ?hrn
  case hin => (refine ⟨_, rfl, rfl, rfl, fun w hSw => ?_⟩; (try dsimp only at hSw); go_simp; (try with_reducible rfl))
  (try simp only [pq1, ls0, ls1])
  refine wpAnyH_done (by kernel_rfl) ?_ _
  refine NoPanic.normal ?_
  go_wp2
  refine bodyPost_ret (v := .tuple #[.int .i64 c.h.fn, .int .i64 c.h.fl, v]) ?_ ?_ ?_
  ·
   simp [results, Tryd.results89, go_sem]
  ·
   rfl
  ·
   refine ⟨⟨v, ?_, ?_⟩, HS2.out, HK2.out⟩
   ·
    rw [HPX.out]
   ·
    rw [HPX.out]; exact CoSN.mono HV.out fun b _ h => Nat.lt_of_lt_of_le h (Nat.le_trans HB.out.size HDZ.out)
 have b2 : (d.h.fn == 0) = false := beq_false_of_ne a2
 have HN1 := hid (show ¬ (c.h.fn = 1 ∨ d.h.fn = 0) from fun h => h.elim a1 a2)
 by_cases a3 : d.h.fn = 1
 ·
  have b3 : (d.h.fn == 1) = true := by rw [a3]; rfl
  have HCOND := hid (show d.h.fn = 1 ∨ c.h.fn = 0 from .inl a3)
  clear a1 a2 a3
  have HPX := hid (show P = (d.h.fn, d.h.fl, d.funs) by rw [HP.out, if_neg HN1.out, if_pos HCOND.out])
  go_upto_region 4 with fail
  (try dsimp only [List.append])
  refine wp_region_noPanic ?_
  refine wp_region_held_drew (S := (fun w' => w'.cell? ⟨(w.heap.size + 1), 9, none⟩ = some (.int .i64 d.h.fn) ∧ w'.cell? ⟨(w.heap.size + 1), 10, none⟩ = some (.int .i64 d.h.fl) ∧ w'.cell? ⟨(w.heap.size + 1), 11, none⟩ = some (.slice ga mf gc))) (by kernel_rfl) (by (try dsimp only); exact ⟨(HXD.out.keep (Below.refl W.heap.size W).drew).c9, (HXD.out.keep (Below.refl W.heap.size W).drew).c10, (HXD.out.keep (Below.refl W.heap.size W).drew).c11⟩) (fun hHeld => ?_)
  have hdr : Below W.heap.size W W.drew := (Below.refl _ _).drew
  have HXE := hid (HXD.out.keep hdr)
  have HSE := hid (HS.out.then hdr)
  have HWE := hid (HWK.out.keep hdr)
  have HPE := hid (CoSN.below HDF.out hdr)
  have HDZ := hid hdr.size
  clear hdr
  generalize W.drew = wd at hHeld HXE HSE HWE HPE HDZ ⊢
  refine' tk_q 0 41 hHeld ?hio ?hro
  case hio => (refine ⟨_, rfl, rfl, rfl, fun w hSw => ?_⟩; (try dsimp only at hSw); go_simp; (try with_reducible rfl))
  (try simp only [pq1, ls0, ls1])
  refine' tk_q 1 42 hHeld ?hip ?hrp
  case hip => (refine ⟨_, rfl, rfl, rfl, fun w hSw => ?_⟩; (try dsimp only at hSw); go_simp; (try with_reducible rfl))
  (try simp only [pq1, ls0, ls1])
  refine' tk_q 2 43 hHeld ?hiq ?hrq
  case hiq => (refine ⟨_, rfl, rfl, rfl, fun w hSw => ?_⟩; (try dsimp only at hSw); go_simp; (try with_reducible rfl))
  (try simp only [pq1, ls0, ls1])
  refine' tk_q 3 44 hHeld ?hir ?hrr
  case hir => (refine ⟨_, rfl, rfl, rfl, fun w hSw => ?_⟩; (try dsimp only at hSw); go_simp; (try with_reducible rfl))
  (try simp only [pq1, ls0, ls1])
  refine' tk_q 4 45 hHeld ?his ?hrs
  case his => (refine ⟨_, rfl, rfl, rfl, fun w hSw => ?_⟩; (try dsimp only at hSw); go_simp; (try with_reducible rfl))
  (try simp only [pq1, ls0, ls1])
  refine' tk_q 5 46 hHeld ?hit ?hrt
  case hit => (refine ⟨_, rfl, rfl, rfl, fun w hSw => ?_⟩; (try dsimp only at hSw); go_simp; (try with_reducible rfl))
  (try simp only [pq1, ls0, ls1])
  refine' tk_q 6 47 hHeld ?hiu ?hru
  case hiu => (refine ⟨_, rfl, rfl, rfl, fun w hSw => ?_⟩; (try dsimp only at hSw); go_simp; (try with_reducible rfl))
  (try simp only [pq1, ls0, ls1])
  refine' tk_q 7 48 hHeld ?hiv ?hrv
  case hiv => (refine ⟨_, rfl, rfl, rfl, fun w hSw => ?_⟩; (try dsimp only at hSw); go_simp; (try with_reducible rfl))
  (try simp only [pq1, ls0, ls1])
  refine' tk_call 8 ?hiw (by kernel_rfl) ?hrw
  case hiw => rfl
  intro K hK
  go_simp
  go_at_call 93
  refine (HCPD.out wd HWE.out HPE.out).mono ?_
  rintro e2 w2 ⟨⟨v, rfl, hv⟩, hs2, hk2⟩
  have HV := hid hv
  have HS2 := hid (HSE.out.trans hs2)
  have HK2 := hid hk2
  have HX2 := hid (HXE.out.stay hs2 (by have := HCW.out; omega))
  clear hv hs2 hk2
  go_wp2_with fail
  clear hHeld
  refine hK.out _ _ (by (try dsimp only); exact ⟨HX2.out.c9, HX2.out.c10, HX2.out.c11⟩) (fun hHeld => ?_)
  clear hK K
  (try simp only [pq1, ls0, ls1])
  refine' tk_q 9 8 hHeld ?hix ?hrx
  case hix => (refine ⟨_, rfl, rfl, rfl, fun w hSw => ?_⟩; (try dsimp only at hSw); go_simp; (try with_reducible rfl))
  (try simp only [pq1, ls0, ls1])
  refine' tk_q 10 9 hHeld ?hiy ?hry
  case hiy => (refine ⟨_, rfl, rfl, rfl, fun w hSw => ?_⟩; (try dsimp only at hSw); go_simp; (try with_reducible rfl))
  (try simp only [pq1, ls0, ls1])
  refine' tk_q 11 10 hHeld ?hiz ?hrz
  case hiz => (refine ⟨_, rfl, rfl, rfl, fun w hSw => ?_⟩; (try dsimp only at hSw); go_simp; (try with_reducible rfl))
  (try simp only [pq1, ls0, ls1])
  refine wpAnyH_done (by kernel_rfl) ?_ _
  refine NoPanic.normal ?_
  go_wp2
  refine bodyPost_ret (v := .tuple #[.int .i64 d.h.fn, .int .i64 d.h.fl, v]) ?_ ?_ ?_
  ·
   simp [results, Tryd.results89, go_sem]
  ·
   rfl
  ·
   refine ⟨⟨v, ?_, ?_⟩, HS2.out, HK2.out⟩
   ·
    rw [HPX.out]
   ·
    rw [HPX.out]; exact CoSN.mono HV.out fun b _ h => Nat.lt_of_lt_of_le h (Nat.le_trans HB.out.size HDZ.out)
 have b3 : (d.h.fn == 1) = false := beq_false_of_ne a3
 by_cases a4 : c.h.fn = 0
 ·
  have b4 : (c.h.fn == 0) = true := by rw [a4]; rfl
  have HCOND := hid (show d.h.fn = 1 ∨ c.h.fn = 0 from .inr a4)
  clear a1 a2 a3 a4
  have HPX := hid (show P = (d.h.fn, d.h.fl, d.funs) by rw [HP.out, if_neg HN1.out, if_pos HCOND.out])
  go_upto_region 4 with fail
  (try dsimp only [List.append])
  refine wp_region_noPanic ?_
  refine wp_region_held_drew (S := (fun w' => w'.cell? ⟨(w.heap.size + 1), 9, none⟩ = some (.int .i64 d.h.fn) ∧ w'.cell? ⟨(w.heap.size + 1), 10, none⟩ = some (.int .i64 d.h.fl) ∧ w'.cell? ⟨(w.heap.size + 1), 11, none⟩ = some (.slice ga mf gc))) (by kernel_rfl) (by (try dsimp only); exact ⟨(HXD.out.keep (Below.refl W.heap.size W).drew).c9, (HXD.out.keep (Below.refl W.heap.size W).drew).c10, (HXD.out.keep (Below.refl W.heap.size W).drew).c11⟩) (fun hHeld => ?_)
  have hdr : Below W.heap.size W W.drew := (Below.refl _ _).drew
  have HXE := hid (HXD.out.keep hdr)
  have HSE := hid (HS.out.then hdr)
  have HWE := hid (HWK.out.keep hdr)
  have HPE := hid (CoSN.below HDF.out hdr)
  have HDZ := hid hdr.size
  clear hdr
  generalize W.drew = wd at hHeld HXE HSE HWE HPE HDZ ⊢
  refine' tk_q 0 41 hHeld ?hi10 ?hr10
  case hi10 => (refine ⟨_, rfl, rfl, rfl, fun w hSw => ?_⟩; (try dsimp only at hSw); go_simp; (try with_reducible rfl))
  (try simp only [pq1, ls0, ls1])
  refine' tk_q 1 42 hHeld ?hi11 ?hr11
  case hi11 => (refine ⟨_, rfl, rfl, rfl, fun w hSw => ?_⟩; (try dsimp only at hSw); go_simp; (try with_reducible rfl))
  (try simp only [pq1, ls0, ls1])
  refine' tk_q 2 43 hHeld ?hi12 ?hr12
  case hi12 => (refine ⟨_, rfl, rfl, rfl, fun w hSw => ?_⟩; (try dsimp only at hSw); go_simp; (try with_reducible rfl))
  (try simp only [pq1, ls0, ls1])
  refine' tk_q 3 44 hHeld ?hi13 ?hr13
  case hi13 => (refine ⟨_, rfl, rfl, rfl, fun w hSw => ?_⟩; (try dsimp only at hSw); go_simp; (try with_reducible rfl))
  (try simp only [pq1, ls0, ls1])
  refine' tk_q 4 45 hHeld ?hi14 ?hr14
  case hi14 => (refine ⟨_, rfl, rfl, rfl, fun w hSw => ?_⟩; (try dsimp only at hSw); go_simp; (try with_reducible rfl))
  (try simp only [pq1, ls0, ls1])
  refine' tk_q 5 46 hHeld ?hi15 ?hr15
  case hi15 => (refine ⟨_, rfl, rfl, rfl, fun w hSw => ?_⟩; (try dsimp only at hSw); go_simp; (try with_reducible rfl))
  (try simp only [pq1, ls0, ls1])
  refine' tk_q 6 47 hHeld ?hi16 ?hr16
  case hi16 => (refine ⟨_, rfl, rfl, rfl, fun w hSw => ?_⟩; (try dsimp only at hSw); go_simp; (try with_reducible rfl))
  (try simp only [pq1, ls0, ls1])
  refine' tk_q 7 48 hHeld ?hi17 ?hr17
  case hi17 => (refine ⟨_, rfl, rfl, rfl, fun w hSw => ?_⟩; (try dsimp only at hSw); go_simp; (try with_reducible rfl))
  (try simp only [pq1, ls0, ls1])
  refine' tk_call 8 ?hi18 (by kernel_rfl) ?hr18
  case hi18 => rfl
  intro K hK
  go_simp
  go_at_call 93
  refine (HCPD.out wd HWE.out HPE.out).mono ?_
  rintro e2 w2 ⟨⟨v, rfl, hv⟩, hs2, hk2⟩
  have HV := hid hv
  have HS2 := hid (HSE.out.trans hs2)
  have HK2 := hid hk2
  have HX2 := hid (HXE.out.stay hs2 (by have := HCW.out; omega))
  clear hv hs2 hk2
  go_wp2_with fail
  clear hHeld
  refine hK.out _ _ (by (try dsimp only); exact ⟨HX2.out.c9, HX2.out.c10, HX2.out.c11⟩) (fun hHeld => ?_)
  clear hK K
  (try simp only [pq1, ls0, ls1])
  refine' tk_q 9 8 hHeld ?hi19 ?hr19
  case hi19 => (refine ⟨_, rfl, rfl, rfl, fun w hSw => ?_⟩; (try dsimp only at hSw); go_simp; (try with_reducible rfl))
  (try simp only [pq1, ls0, ls1])
  refine' tk_q 10 9 hHeld ?hi1a ?hr1a
  case hi1a => (refine ⟨_, rfl, rfl, rfl, fun w hSw => ?_⟩; (try dsimp only at hSw); go_simp; (try with_reducible rfl))
  (try simp only [pq1, ls0, ls1])
  refine' tk_q 11 10 hHeld ?hi1b ?hr1b
  case hi1b => (refine ⟨_, rfl, rfl, rfl, fun w hSw => ?_⟩; (try dsimp only at hSw); go_simp; (try with_reducible rfl))
  (try simp only [pq1, ls0, ls1])
  refine wpAnyH_done (by kernel_rfl) ?_ _
  refine NoPanic.normal ?_
  go_wp2
  refine bodyPost_ret (v := .tuple #[.int .i64 d.h.fn, .int .i64 d.h.fl, v]) ?_ ?_ ?_
  ·
   simp [results, Tryd.results89, go_sem]
  ·
   rfl
  ·
   refine ⟨⟨v, ?_, ?_⟩, HS2.out, HK2.out⟩
   ·
    rw [HPX.out]
   ·
    rw [HPX.out]; exact CoSN.mono HV.out fun b _ h => Nat.lt_of_lt_of_le h (Nat.le_trans HB.out.size HDZ.out)
 have b4 : (c.h.fn == 0) = false := beq_false_of_ne a4
 have HN2 := hid (show ¬ (d.h.fn = 1 ∨ c.h.fn = 0) from fun h => h.elim a3 a4)
 have HTW := hid (show 2 ≤ c.h.fn ∧ 2 ≤ d.h.fn by have := HOC.out.2.1; have := HOD.out.2.1; omega)
 clear a1 a2 a3 a4
 by_cases a5 : c.h.fn = 3
 ·
  have b5 : (c.h.fn == 3) = true := by rw [a5]; rfl
  have HCOND := hid (show c.h.fn = 3 ∨ d.h.fn = 3 ∨ c.funs.length ≠ d.funs.length from .inl a5)
  clear a5
  have HPX := hid (show P = (3, 0, []) by rw [HP.out, if_neg HN1.out, if_neg HN2.out, if_pos HCOND.out])
  go_wp2
  refine bodyPost_ret (v := .tuple #[.int .i64 3, .int .i64 0, .slice none 0 0]) ?_ ?_ ?_
  ·
   simp [results, Tryd.results89, go_sem]
  ·
   rfl
  ·
   refine ⟨⟨_, by rw [HPX.out], ?_⟩, HS.out, k, Nat.le_add_right _ _, HWK.out⟩
   rw [HPX.out]; exact .mkNil _ _
 have b5 : (c.h.fn == 3) = false := beq_false_of_ne a5
 by_cases a6 : d.h.fn = 3
 ·
  have b6 : (d.h.fn == 3) = true := by rw [a6]; rfl
  have HCOND := hid (show c.h.fn = 3 ∨ d.h.fn = 3 ∨ c.funs.length ≠ d.funs.length from .inr (.inl a6))
  clear a5 a6
  have HPX := hid (show P = (3, 0, []) by rw [HP.out, if_neg HN1.out, if_neg HN2.out, if_pos HCOND.out])
  go_wp2
  refine bodyPost_ret (v := .tuple #[.int .i64 3, .int .i64 0, .slice none 0 0]) ?_ ?_ ?_
  ·
   simp [results, Tryd.results89, go_sem]
  ·
   rfl
  ·
   refine ⟨⟨_, by rw [HPX.out], ?_⟩, HS.out, k, Nat.le_add_right _ _, HWK.out⟩
   rw [HPX.out]; exact .mkNil _ _
 have b6 : (d.h.fn == 3) = false := beq_false_of_ne a6
 by_cases a7 : nf = mf
 case neg =>
  have b7 : ((nf : Int) != (mf : Int)) = true := by rw [bne_iff_ne]; omega
  have HCOND := hid (show c.h.fn = 3 ∨ d.h.fn = 3 ∨ c.funs.length ≠ d.funs.length from .inr (.inr (by rw [← HNF.out, ← HMF.out]; exact a7)))
  clear a5 a6 a7
  have HPX := hid (show P = (3, 0, []) by rw [HP.out, if_neg HN1.out, if_neg HN2.out, if_pos HCOND.out])
  go_wp2
  refine bodyPost_ret (v := .tuple #[.int .i64 3, .int .i64 0, .slice none 0 0]) ?_ ?_ ?_
  ·
   simp [results, Tryd.results89, go_sem]
  ·
   rfl
  ·
   refine ⟨⟨_, by rw [HPX.out], ?_⟩, HS.out, k, Nat.le_add_right _ _, HWK.out⟩
   rw [HPX.out]; exact .mkNil _ _
 subst a7
 have b7 : ((nf : Int) != (nf : Int)) = false := by simp
 have HN3 := hid (show ¬ (c.h.fn = 3 ∨ d.h.fn = 3 ∨ c.funs.length ≠ d.funs.length) from fun h => h.elim a5 fun h => h.elim a6 fun h => h (by rw [← HNF.out, ← HMF.out]))
 have HPX := hid (show P = (2, 0, rowF n c d) by rw [HP.out, if_neg HN1.out, if_neg HN2.out, if_neg HN3.out])
 have hfl := HOC.out.2.2.2.2 (by have := HOC.out.2.1; have := HTW.out; omega)
 obtain ⟨m, hm⟩ : ∃ m, nf = m + 1 := ⟨nf - 1, by rw [HNF.out]; omega⟩
 have hm8 : m ≤ 8 := by rw [← HNF.out] at hfl; omega
 clear a5 a6 hfl
 have h00 : (0 : Int) ≤ (nf : Int) := by omega
 have hle : (nf : Int) ≤ 100 := by omega
 have hmk := mkco_any nf (by omega) W
 obtain ⟨wR, hwR⟩ : ∃ x, x = W.alloc (.cells (cosCells (List.replicate nf rawc0)).toArray 25) := ⟨_, rfl⟩
 rw [← hwR] at hmk
 have HROW := hid (show RowO W.heap.size W.heap.size nf wR (List.replicate nf co0) by rw [hwR]; exact RowO.made nf (by omega) W)
 have HBR := hid (show Below W.heap.size W wR by rw [hwR]; exact bAl _ _)
 clear hwR
 obtain ⟨g, hg⟩ : ∃ g, g = W.heap.size := ⟨_, rfl⟩
 rw [← hg] at hmk
 have HGE := hid hg
 have HM := hid hm
 have HM8 := hid hm8
 clear hg hm hm8
 have HS0 := HS
 go_wp2
 go_loopw [11, 74] (fun _ i wr => ∃ j : Nat, j ≤ nf ∧ i = .int .i64 j ∧ Hid (∃ L, RowO g W.heap.size nf wr L ∧ ∀ i, i < j → L.getD i co0 = partF n c d m i) ∧ Hid (Stay (· = cw) W wr) ∧ Hid (∃ k1, k1 ≤ k + sumF c d j ∧ WalkC M cw k1 wr)) (fun _ i _ => nf - (intOf i).toNat)
 case atStart => exact ⟨0, Nat.zero_le _, rfl, hid ⟨_, by rw [HGE.out]; exact HROW.out, fun j hj => absurd hj (Nat.not_lt_zero _)⟩, hid (.of HBR.out), hid ⟨k, Nat.le_add_right _ _, HWK.out.keep HBR.out⟩⟩
 case round =>
  obtain ⟨j, hj, rfl, HA, HBL, HT⟩ := hrel
  clear x0 y0 x1 y1 x2 y2 x3 y3 x4 y4 x5 y5 x6 y6 x7 y7 x8 y8 x9 y9 x10 y10 x11 y11
  by_cases hgo : j < nf
  ·
   have hkc : j < c.funs.length := by rw [← HNF.out]; exact hgo
   have hkd : j < d.funs.length := by rw [← HMF.out]; exact hgo
   obtain ⟨cx, hcx⟩ : ∃ x, c.funs.getD j co0 = x := ⟨_, rfl⟩
   obtain ⟨dx, hdx⟩ : ∃ x, d.funs.getD j co0 = x := ⟨_, rfl⟩
   obtain ⟨bc, oc, p1, p2, p3, p4, rfl, hbc, ⟨e0, e1, e2, e3, e4, e5, e6, e7, e8, e9, e10, e11⟩, hvc⟩ := CoSN.elem (CoSN.stay HCF.out HBL.out) hkc hcx
   obtain ⟨bd, od, q1, q2, q3, q4, rfl, hbd, ⟨u0, u1, u2, u3, u4, u5, u6, u7, u8, u9, u10, u11⟩, hvd⟩ := CoSN.elem (CoSN.stay HDF.out HBL.out) hkd hdx
   obtain ⟨n1, hn1⟩ : ∃ q, q = cx.pairs.length := ⟨_, rfl⟩
   obtain ⟨n2, hn2⟩ : ∃ q, q = cx.funs.length := ⟨_, rfl⟩
   obtain ⟨n3, hn3⟩ : ∃ q, q = dx.pairs.length := ⟨_, rfl⟩
   obtain ⟨n4, hn4⟩ : ∃ q, q = dx.funs.length := ⟨_, rfl⟩
   rw [← hn1] at e8 hvc
   rw [← hn2] at e11 hvc
   rw [← hn3] at u8 hvd
   rw [← hn4] at u11 hvd
   have x11 : wr.cell? ⟨w.heap.size, 11, none⟩ = some (.slice (some ⟨bc, oc, none⟩) nf fc) := (HXC.out.stay HBL.out (by have := HCW.out; have := HB.out.size; omega)).c11
   have y11 : wr.cell? ⟨(w.heap.size + 1), 11, none⟩ = some (.slice (some ⟨bd, od, none⟩) nf gc) := (HXD.out.stay HBL.out (by have := HCW.out; have := HB.out.size; omega)).c11
   have hsz0 : w.heap.size + 1 < wr.heap.size := by have := HSZ.out; have := HBL.out.size; omega
   have HKE := hid (show ∀ wx, Below wr.heap.size wr wx → (fun w' => w'.cell? ⟨w.heap.size, 11, none⟩ = some (.slice (some ⟨bc, oc, none⟩) nf fc) ∧ w'.cell? ⟨(w.heap.size + 1), 11, none⟩ = some (.slice (some ⟨bd, od, none⟩) nf gc) ∧ w'.cell? ⟨bc, oc + j * 12, none⟩ = some (.int .i64 cx.h.f0) ∧ w'.cell? ⟨bc, oc + j * 12 + 1, none⟩ = some (.int .i64 cx.h.f1) ∧ w'.cell? ⟨bc, oc + j * 12 + 2, none⟩ = some (.int .i64 cx.h.f2) ∧ w'.cell? ⟨bc, oc + j * 12 + 3, none⟩ = some (.int .i64 cx.h.f3) ∧ w'.cell? ⟨bc, oc + j * 12 + 4, none⟩ = some (.int .i64 cx.h.f4) ∧ w'.cell? ⟨bc, oc + j * 12 + 5, none⟩ = some (.int .i64 cx.h.f5) ∧ w'.cell? ⟨bc, oc + j * 12 + 6, none⟩ = some (.int .i64 cx.h.pair) ∧ w'.cell? ⟨bc, oc + j * 12 + 7, none⟩ = some (.int .i64 cx.h.pl) ∧ w'.cell? ⟨bc, oc + j * 12 + 8, none⟩ = some (.slice p1 n1 p2) ∧ w'.cell? ⟨bc, oc + j * 12 + 9, none⟩ = some (.int .i64 cx.h.fn) ∧ w'.cell? ⟨bc, oc + j * 12 + 10, none⟩ = some (.int .i64 cx.h.fl) ∧ w'.cell? ⟨bc, oc + j * 12 + 11, none⟩ = some (.slice p3 n2 p4) ∧ w'.cell? ⟨bd, od + j * 12, none⟩ = some (.int .i64 dx.h.f0) ∧ w'.cell? ⟨bd, od + j * 12 + 1, none⟩ = some (.int .i64 dx.h.f1) ∧ w'.cell? ⟨bd, od + j * 12 + 2, none⟩ = some (.int .i64 dx.h.f2) ∧ w'.cell? ⟨bd, od + j * 12 + 3, none⟩ = some (.int .i64 dx.h.f3) ∧ w'.cell? ⟨bd, od + j * 12 + 4, none⟩ = some (.int .i64 dx.h.f4) ∧ w'.cell? ⟨bd, od + j * 12 + 5, none⟩ = some (.int .i64 dx.h.f5) ∧ w'.cell? ⟨bd, od + j * 12 + 6, none⟩ = some (.int .i64 dx.h.pair) ∧ w'.cell? ⟨bd, od + j * 12 + 7, none⟩ = some (.int .i64 dx.h.pl) ∧ w'.cell? ⟨bd, od + j * 12 + 8, none⟩ = some (.slice q1 n3 q2) ∧ w'.cell? ⟨bd, od + j * 12 + 9, none⟩ = some (.int .i64 dx.h.fn) ∧ w'.cell? ⟨bd, od + j * 12 + 10, none⟩ = some (.int .i64 dx.h.fl) ∧ w'.cell? ⟨bd, od + j * 12 + 11, none⟩ = some (.slice q3 n4 q4)) wx from fun wx hs => ⟨(hs.cell (p := ⟨w.heap.size, 11, none⟩) (by show w.heap.size < _; omega)).trans x11, (hs.cell (p := ⟨w.heap.size + 1, 11, none⟩) hsz0).trans y11, (hs.cell (p := ⟨bc, oc + j * 12, none⟩) hbc).trans e0, (hs.cell (p := ⟨bc, oc + j * 12 + 1, none⟩) hbc).trans e1, (hs.cell (p := ⟨bc, oc + j * 12 + 2, none⟩) hbc).trans e2, (hs.cell (p := ⟨bc, oc + j * 12 + 3, none⟩) hbc).trans e3, (hs.cell (p := ⟨bc, oc + j * 12 + 4, none⟩) hbc).trans e4, (hs.cell (p := ⟨bc, oc + j * 12 + 5, none⟩) hbc).trans e5, (hs.cell (p := ⟨bc, oc + j * 12 + 6, none⟩) hbc).trans e6, (hs.cell (p := ⟨bc, oc + j * 12 + 7, none⟩) hbc).trans e7, (hs.cell (p := ⟨bc, oc + j * 12 + 8, none⟩) hbc).trans e8, (hs.cell (p := ⟨bc, oc + j * 12 + 9, none⟩) hbc).trans e9, (hs.cell (p := ⟨bc, oc + j * 12 + 10, none⟩) hbc).trans e10, (hs.cell (p := ⟨bc, oc + j * 12 + 11, none⟩) hbc).trans e11, (hs.cell (p := ⟨bd, od + j * 12, none⟩) hbd).trans u0, (hs.cell (p := ⟨bd, od + j * 12 + 1, none⟩) hbd).trans u1, (hs.cell (p := ⟨bd, od + j * 12 + 2, none⟩) hbd).trans u2, (hs.cell (p := ⟨bd, od + j * 12 + 3, none⟩) hbd).trans u3, (hs.cell (p := ⟨bd, od + j * 12 + 4, none⟩) hbd).trans u4, (hs.cell (p := ⟨bd, od + j * 12 + 5, none⟩) hbd).trans u5, (hs.cell (p := ⟨bd, od + j * 12 + 6, none⟩) hbd).trans u6, (hs.cell (p := ⟨bd, od + j * 12 + 7, none⟩) hbd).trans u7, (hs.cell (p := ⟨bd, od + j * 12 + 8, none⟩) hbd).trans u8, (hs.cell (p := ⟨bd, od + j * 12 + 9, none⟩) hbd).trans u9, (hs.cell (p := ⟨bd, od + j * 12 + 10, none⟩) hbd).trans u10, (hs.cell (p := ⟨bd, od + j * 12 + 11, none⟩) hbd).trans u11⟩)
   have HVC := hid hvc
   have HVD := hid hvd
   have HCX := hid hcx
   have HDX := hid hdx
   have HKL := hid hgo
   have hlt : (j : Int) < nf := by omega
   have hj0 : (0 : Int) ≤ (j : Int) := by omega
   clear hvc hvd hcx hdx hn1 hn2 hn3 hn4 hkc hkd hj hgo hsz0
   go_upto_region 11 with fail
   go_cut [12, 13] from 77 to 86 (fun p q wx => ∃ g12 g13 : Nat, p = .pointer (some ⟨g12, 0, none⟩) ∧ q = .pointer (some ⟨g13, 0, none⟩) ∧ Hid (CBox wx g12 25 ⟨dx.h, .slice q1 n3 q2, .slice q3 n4 q4⟩) ∧ Hid (CBox wx g13 25 ⟨cx.h, .slice p1 n1 p2, .slice p3 n2 p4⟩) ∧ Hid (g12 ≠ g13 ∧ wr.heap.size ≤ g12 ∧ wr.heap.size ≤ g13) ∧ Hid (Below wr.heap.size wr wx))
   case first =>
    (try dsimp only [List.append])
    refine wp_region_noPanic ?_
    refine wp_region_held_drew (S := (fun w' => w'.cell? ⟨w.heap.size, 11, none⟩ = some (.slice (some ⟨bc, oc, none⟩) nf fc) ∧ w'.cell? ⟨(w.heap.size + 1), 11, none⟩ = some (.slice (some ⟨bd, od, none⟩) nf gc) ∧ w'.cell? ⟨bc, oc + j * 12, none⟩ = some (.int .i64 cx.h.f0) ∧ w'.cell? ⟨bc, oc + j * 12 + 1, none⟩ = some (.int .i64 cx.h.f1) ∧ w'.cell? ⟨bc, oc + j * 12 + 2, none⟩ = some (.int .i64 cx.h.f2) ∧ w'.cell? ⟨bc, oc + j * 12 + 3, none⟩ = some (.int .i64 cx.h.f3) ∧ w'.cell? ⟨bc, oc + j * 12 + 4, none⟩ = some (.int .i64 cx.h.f4) ∧ w'.cell? ⟨bc, oc + j * 12 + 5, none⟩ = some (.int .i64 cx.h.f5) ∧ w'.cell? ⟨bc, oc + j * 12 + 6, none⟩ = some (.int .i64 cx.h.pair) ∧ w'.cell? ⟨bc, oc + j * 12 + 7, none⟩ = some (.int .i64 cx.h.pl) ∧ w'.cell? ⟨bc, oc + j * 12 + 8, none⟩ = some (.slice p1 n1 p2) ∧ w'.cell? ⟨bc, oc + j * 12 + 9, none⟩ = some (.int .i64 cx.h.fn) ∧ w'.cell? ⟨bc, oc + j * 12 + 10, none⟩ = some (.int .i64 cx.h.fl) ∧ w'.cell? ⟨bc, oc + j * 12 + 11, none⟩ = some (.slice p3 n2 p4) ∧ w'.cell? ⟨bd, od + j * 12, none⟩ = some (.int .i64 dx.h.f0) ∧ w'.cell? ⟨bd, od + j * 12 + 1, none⟩ = some (.int .i64 dx.h.f1) ∧ w'.cell? ⟨bd, od + j * 12 + 2, none⟩ = some (.int .i64 dx.h.f2) ∧ w'.cell? ⟨bd, od + j * 12 + 3, none⟩ = some (.int .i64 dx.h.f3) ∧ w'.cell? ⟨bd, od + j * 12 + 4, none⟩ = some (.int .i64 dx.h.f4) ∧ w'.cell? ⟨bd, od + j * 12 + 5, none⟩ = some (.int .i64 dx.h.f5) ∧ w'.cell? ⟨bd, od + j * 12 + 6, none⟩ = some (.int .i64 dx.h.pair) ∧ w'.cell? ⟨bd, od + j * 12 + 7, none⟩ = some (.int .i64 dx.h.pl) ∧ w'.cell? ⟨bd, od + j * 12 + 8, none⟩ = some (.slice q1 n3 q2) ∧ w'.cell? ⟨bd, od + j * 12 + 9, none⟩ = some (.int .i64 dx.h.fn) ∧ w'.cell? ⟨bd, od + j * 12 + 10, none⟩ = some (.int .i64 dx.h.fl) ∧ w'.cell? ⟨bd, od + j * 12 + 11, none⟩ = some (.slice q3 n4 q4))) (by kernel_rfl) (by (try dsimp only); exact HKE.out _ (Below.refl wr.heap.size wr).drew) (fun hHeld => ?_)
    have HBD := hid ((Below.refl wr.heap.size wr).drew)
    generalize wr.drew = wd at hHeld HBD ⊢
    refine' tk_q 0 77 hHeld ?hi1c ?hr1c
    case hi1c => (refine ⟨_, rfl, rfl, rfl, fun w hSw => ?_⟩; (try dsimp only at hSw); go_simp; (try with_reducible rfl))
    (try simp only [pq1, ls0, ls1])
    refine' tk_q 1 78 hHeld ?hi1d ?hr1d
    case hi1d => (refine ⟨_, rfl, rfl, rfl, fun w hSw => ?_⟩; (try dsimp only at hSw); go_simp; (try with_reducible rfl))
    (try simp only [pq1, ls0, ls1])
    refine' tk_q 2 79 hHeld ?hi1e ?hr1e
    case hi1e => (refine ⟨_, rfl, rfl, rfl, fun w hSw => ?_⟩; (try dsimp only at hSw); go_simp; (try with_reducible rfl))
    (try simp only [pq1, ls0, ls1])
    refine' tk_q 3 80 hHeld ?hi1f ?hr1f
    case hi1f => (refine ⟨_, rfl, rfl, rfl, fun w hSw => ?_⟩; (try dsimp only at hSw); go_simp; (try with_reducible rfl))
    (try simp only [pq1, ls0, ls1])
    refine' tk_q 4 81 hHeld ?hi1g ?hr1g
    case hi1g => (refine ⟨_, rfl, rfl, rfl, fun w hSw => ?_⟩; (try dsimp only at hSw); go_simp; (try with_reducible rfl))
    (try simp only [pq1, ls0, ls1])
    refine' tk_q 5 82 hHeld ?hi1h ?hr1h
    case hi1h => (refine ⟨_, rfl, rfl, rfl, fun w hSw => ?_⟩; (try dsimp only at hSw); go_simp; (try with_reducible rfl))
    (try simp only [pq1, ls0, ls1])
    refine' tk_q 6 83 hHeld ?hi1i ?hr1i
    case hi1i => (refine ⟨_, rfl, rfl, rfl, fun w hSw => ?_⟩; (try dsimp only at hSw); go_simp; (try with_reducible rfl))
    (try simp only [pq1, ls0, ls1])
    refine' tk_q 7 84 hHeld ?hi1j ?hr1j
    case hi1j => (refine ⟨_, rfl, rfl, rfl, fun w hSw => ?_⟩; (try dsimp only at hSw); go_simp; (try with_reducible rfl))
    (try simp only [pq1, ls0, ls1])
    refine' tk_q 8 85 hHeld ?hi1k ?hr1k
    case hi1k => (refine ⟨_, rfl, rfl, rfl, fun w hSw => ?_⟩; (try dsimp only at hSw); go_simp; (try with_reducible rfl))
    (try simp only [pq1, ls0, ls1])
    refine' tk_q 9 86 hHeld ?hi1l ?hr1l
    case hi1l => (refine ⟨_, rfl, rfl, rfl, fun w hSw => ?_⟩; (try dsimp only at hSw); go_simp; (try with_reducible rfl))
    (try simp only [pq1, ls0, ls1])
    refine' tk_two 10 11 ?hi1m ?hj1m (by kernel_rfl) ?ha1m ?hb1m
    case hi1m => rfl
    case hj1m => rfl
    case ha1m =>
     intro K hK
     go_simp
     obtain ⟨wA, hwA⟩ : ∃ x : World, x = wd.alloc (.cells #[.int .i64 0, .int .i64 0, .int .i64 0, .int .i64 0, .int .i64 0, .int .i64 0, .int .i64 0, .int .i64 0, .slice none 0 0, .int .i64 0, .int .i64 0, .slice none 0 0] 25) := ⟨_, rfl⟩
     rw [← hwA]
     have hb : Below wd.heap.size wd wA := by rw [hwA]; exact bAl _ _
     obtain ⟨g12, hgn⟩ : ∃ x, x = wd.heap.size := ⟨_, rfl⟩
     rw [← hgn]
     have Hg12 := hid (show CBox wA g12 25 ⟨⟨0, 0, 0, 0, 0, 0, 0, 0, 0, 0⟩, .slice none 0 0, .slice none 0 0⟩ by rw [hwA, hgn]; exact CBox.made wd 25 ⟨⟨0, 0, 0, 0, 0, 0, 0, 0, 0, 0⟩, .slice none 0 0, .slice none 0 0⟩)
     have Lg12 := hid (show wr.heap.size ≤ g12 by rw [hgn]; exact HBD.out.size)
     replace HBD := hid (HBD.out.trans (hb.mono HBD.out.size))
     clear hb hwA hgn
     clear hHeld
     refine hK.out _ _ (by (try dsimp only); exact HKE.out _ HBD.out) (fun hHeld => ?_)
     clear hK K
     (try simp only [pq1, ls0, ls1])
     refine' tk_call 11 ?hi1n (by kernel_rfl) ?hr1n
     case hi1n => rfl
     intro K hK
     go_simp
     obtain ⟨wB, hwA⟩ : ∃ x : World, x = wA.alloc (.cells #[.int .i64 0, .int .i64 0, .int .i64 0, .int .i64 0, .int .i64 0, .int .i64 0, .int .i64 0, .int .i64 0, .slice none 0 0, .int .i64 0, .int .i64 0, .slice none 0 0] 25) := ⟨_, rfl⟩
     rw [← hwA]
     have hb : Below wA.heap.size wA wB := by rw [hwA]; exact bAl _ _
     obtain ⟨g13, hgn⟩ : ∃ x, x = wA.heap.size := ⟨_, rfl⟩
     rw [← hgn]
     have Hg13 := hid (show CBox wB g13 25 ⟨⟨0, 0, 0, 0, 0, 0, 0, 0, 0, 0⟩, .slice none 0 0, .slice none 0 0⟩ by rw [hwA, hgn]; exact CBox.made wA 25 ⟨⟨0, 0, 0, 0, 0, 0, 0, 0, 0, 0⟩, .slice none 0 0, .slice none 0 0⟩)
     have Lg13 := hid (show wr.heap.size ≤ g13 by rw [hgn]; exact HBD.out.size)
     have HNE := hid (show g12 ≠ g13 by have := Hg12.out.lt; omega)
     replace Hg12 := hid (Hg12.out.keep hb)
     replace HBD := hid (HBD.out.trans (hb.mono HBD.out.size))
     clear hb hwA hgn
     clear hHeld
     refine hK.out _ _ (by (try dsimp only); exact HKE.out _ HBD.out) (fun hHeld => ?_)
     clear hK K
     (try simp only [pq1, ls0, ls1])
     obtain ⟨r0, r1, r2, r3, r4, r5, r6, r7, r8, r9, r10, r11⟩ := Hg12.out.cs
     (try dsimp only at r0 r1 r2 r3 r4 r5 r6 r7 r8 r9 r10 r11)
     obtain ⟨fr0, fr1, fr2, fr3, fr4, fr5, fr6, fr7, fr8, fr9, fr10, fr11⟩ := Hg12.out.frs
     refine' tk_call 12 ?hi1o (by kernel_rfl) ?hr1o
     case hi1o => rfl
     intro K hK
     go_simp
     have H12 := hid (show CBox (set12 wB g12 ⟨dx.h, .slice q1 n3 q2, .slice q3 n4 q4⟩) g12 25 ⟨dx.h, .slice q1 n3 q2, .slice q3 n4 q4⟩ from CBox.set12 Hg12.out)
     have H13 := hid (show CBox (set12 wB g12 ⟨dx.h, .slice q1 n3 q2, .slice q3 n4 q4⟩) g13 25 ⟨⟨0, 0, 0, 0, 0, 0, 0, 0, 0, 0⟩, .slice none 0 0, .slice none 0 0⟩ from CBox.other12 Hg13.out (Ne.symm HNE.out))
     have HBE := hid (show Below wr.heap.size wr (set12 wB g12 ⟨dx.h, .slice q1 n3 q2, .slice q3 n4 q4⟩) from Below.set12 HBD.out Lg12.out)
     change K _ (set12 wB g12 ⟨dx.h, .slice q1 n3 q2, .slice q3 n4 q4⟩)
     generalize set12 wB g12 ⟨dx.h, .slice q1 n3 q2, .slice q3 n4 q4⟩ = wE at H12 H13 HBE ⊢
     clear hHeld
     refine hK.out _ _ (by (try dsimp only); exact HKE.out _ HBE.out) (fun hHeld => ?_)
     clear hK K
     (try simp only [pq1, ls0, ls1])
     clear r0 fr0 r1 fr1 r2 fr2 r3 fr3 r4 fr4 r5 fr5 r6 fr6 r7 fr7 r8 fr8 r9 fr9 r10 fr10 r11 fr11
     obtain ⟨r0, r1, r2, r3, r4, r5, r6, r7, r8, r9, r10, r11⟩ := H13.out.cs
     (try dsimp only at r0 r1 r2 r3 r4 r5 r6 r7 r8 r9 r10 r11)
     obtain ⟨fr0, fr1, fr2, fr3, fr4, fr5, fr6, fr7, fr8, fr9, fr10, fr11⟩ := H13.out.frs
     refine' tk_call 13 ?hi1p (by kernel_rfl) ?hr1p
     case hi1p => rfl
     intro K hK
     go_simp
     have H23 := hid (show CBox (set12 wE g13 ⟨cx.h, .slice p1 n1 p2, .slice p3 n2 p4⟩) g13 25 ⟨cx.h, .slice p1 n1 p2, .slice p3 n2 p4⟩ from CBox.set12 H13.out)
     have H22 := hid (show CBox (set12 wE g13 ⟨cx.h, .slice p1 n1 p2, .slice p3 n2 p4⟩) g12 25 ⟨dx.h, .slice q1 n3 q2, .slice q3 n4 q4⟩ from CBox.other12 H12.out HNE.out)
     have HBF := hid (show Below wr.heap.size wr (set12 wE g13 ⟨cx.h, .slice p1 n1 p2, .slice p3 n2 p4⟩) from Below.set12 HBE.out Lg13.out)
     change K _ (set12 wE g13 ⟨cx.h, .slice p1 n1 p2, .slice p3 n2 p4⟩)
     generalize set12 wE g13 ⟨cx.h, .slice p1 n1 p2, .slice p3 n2 p4⟩ = wF at H23 H22 HBF ⊢
     clear hHeld
     refine hK.out _ _ (by (try dsimp only); exact HKE.out _ HBF.out) (fun hHeld => ?_)
     clear hK K
     (try simp only [pq1, ls0, ls1])
     refine wpAnyH_done (by kernel_rfl) ?_ _
     refine NoPanic.normal ?_
     clear r0 fr0 r1 fr1 r2 fr2 r3 fr3 r4 fr4 r5 fr5 r6 fr6 r7 fr7 r8 fr8 r9 fr9 r10 fr10 r11 fr11
     go_wp2
     go_meet
     case rel => exact ⟨g12, g13, rfl, rfl, H22, H23, hid ⟨HNE.out, Lg12.out, Lg13.out⟩, HBF⟩
    case hb1m =>
     intro K hK
     go_simp
     obtain ⟨wA, hwA⟩ : ∃ x : World, x = wd.alloc (.cells #[.int .i64 0, .int .i64 0, .int .i64 0, .int .i64 0, .int .i64 0, .int .i64 0, .int .i64 0, .int .i64 0, .slice none 0 0, .int .i64 0, .int .i64 0, .slice none 0 0] 25) := ⟨_, rfl⟩
     rw [← hwA]
     have hb : Below wd.heap.size wd wA := by rw [hwA]; exact bAl _ _
     obtain ⟨g13, hgn⟩ : ∃ x, x = wd.heap.size := ⟨_, rfl⟩
     rw [← hgn]
     have Hg13 := hid (show CBox wA g13 25 ⟨⟨0, 0, 0, 0, 0, 0, 0, 0, 0, 0⟩, .slice none 0 0, .slice none 0 0⟩ by rw [hwA, hgn]; exact CBox.made wd 25 ⟨⟨0, 0, 0, 0, 0, 0, 0, 0, 0, 0⟩, .slice none 0 0, .slice none 0 0⟩)
     have Lg13 := hid (show wr.heap.size ≤ g13 by rw [hgn]; exact HBD.out.size)
     replace HBD := hid (HBD.out.trans (hb.mono HBD.out.size))
     clear hb hwA hgn
     clear hHeld
     refine hK.out _ _ (by (try dsimp only); exact HKE.out _ HBD.out) (fun hHeld => ?_)
     clear hK K
     (try simp only [pq1, ls0, ls1])
     refine' tk_call 10 ?hi1q (by kernel_rfl) ?hr1q
     case hi1q => rfl
     intro K hK
     go_simp
     obtain ⟨wB, hwA⟩ : ∃ x : World, x = wA.alloc (.cells #[.int .i64 0, .int .i64 0, .int .i64 0, .int .i64 0, .int .i64 0, .int .i64 0, .int .i64 0, .int .i64 0, .slice none 0 0, .int .i64 0, .int .i64 0, .slice none 0 0] 25) := ⟨_, rfl⟩
     rw [← hwA]
     have hb : Below wA.heap.size wA wB := by rw [hwA]; exact bAl _ _
     obtain ⟨g12, hgn⟩ : ∃ x, x = wA.heap.size := ⟨_, rfl⟩
     rw [← hgn]
     have Hg12 := hid (show CBox wB g12 25 ⟨⟨0, 0, 0, 0, 0, 0, 0, 0, 0, 0⟩, .slice none 0 0, .slice none 0 0⟩ by rw [hwA, hgn]; exact CBox.made wA 25 ⟨⟨0, 0, 0, 0, 0, 0, 0, 0, 0, 0⟩, .slice none 0 0, .slice none 0 0⟩)
     have Lg12 := hid (show wr.heap.size ≤ g12 by rw [hgn]; exact HBD.out.size)
     have HNE := hid (show g12 ≠ g13 by have := Hg13.out.lt; omega)
     replace Hg13 := hid (Hg13.out.keep hb)
     replace HBD := hid (HBD.out.trans (hb.mono HBD.out.size))
     clear hb hwA hgn
     clear hHeld
     refine hK.out _ _ (by (try dsimp only); exact HKE.out _ HBD.out) (fun hHeld => ?_)
     clear hK K
     (try simp only [pq1, ls0, ls1])
     obtain ⟨r0, r1, r2, r3, r4, r5, r6, r7, r8, r9, r10, r11⟩ := Hg12.out.cs
     (try dsimp only at r0 r1 r2 r3 r4 r5 r6 r7 r8 r9 r10 r11)
     obtain ⟨fr0, fr1, fr2, fr3, fr4, fr5, fr6, fr7, fr8, fr9, fr10, fr11⟩ := Hg12.out.frs
     refine' tk_call 12 ?hi1r (by kernel_rfl) ?hr1r
     case hi1r => rfl
     intro K hK
     go_simp
     have H12 := hid (show CBox (set12 wB g12 ⟨dx.h, .slice q1 n3 q2, .slice q3 n4 q4⟩) g12 25 ⟨dx.h, .slice q1 n3 q2, .slice q3 n4 q4⟩ from CBox.set12 Hg12.out)
     have H13 := hid (show CBox (set12 wB g12 ⟨dx.h, .slice q1 n3 q2, .slice q3 n4 q4⟩) g13 25 ⟨⟨0, 0, 0, 0, 0, 0, 0, 0, 0, 0⟩, .slice none 0 0, .slice none 0 0⟩ from CBox.other12 Hg13.out (Ne.symm HNE.out))
     have HBE := hid (show Below wr.heap.size wr (set12 wB g12 ⟨dx.h, .slice q1 n3 q2, .slice q3 n4 q4⟩) from Below.set12 HBD.out Lg12.out)
     change K _ (set12 wB g12 ⟨dx.h, .slice q1 n3 q2, .slice q3 n4 q4⟩)
     generalize set12 wB g12 ⟨dx.h, .slice q1 n3 q2, .slice q3 n4 q4⟩ = wE at H12 H13 HBE ⊢
     clear hHeld
     refine hK.out _ _ (by (try dsimp only); exact HKE.out _ HBE.out) (fun hHeld => ?_)
     clear hK K
     (try simp only [pq1, ls0, ls1])
     clear r0 fr0 r1 fr1 r2 fr2 r3 fr3 r4 fr4 r5 fr5 r6 fr6 r7 fr7 r8 fr8 r9 fr9 r10 fr10 r11 fr11
     obtain ⟨r0, r1, r2, r3, r4, r5, r6, r7, r8, r9, r10, r11⟩ := H13.out.cs
     (try dsimp only at r0 r1 r2 r3 r4 r5 r6 r7 r8 r9 r10 r11)
     obtain ⟨fr0, fr1, fr2, fr3, fr4, fr5, fr6, fr7, fr8, fr9, fr10, fr11⟩ := H13.out.frs
     refine' tk_call 13 ?hi1s (by kernel_rfl) ?hr1s
     case hi1s => rfl
     intro K hK
     go_simp
     have H23 := hid (show CBox (set12 wE g13 ⟨cx.h, .slice p1 n1 p2, .slice p3 n2 p4⟩) g13 25 ⟨cx.h, .slice p1 n1 p2, .slice p3 n2 p4⟩ from CBox.set12 H13.out)
     have H22 := hid (show CBox (set12 wE g13 ⟨cx.h, .slice p1 n1 p2, .slice p3 n2 p4⟩) g12 25 ⟨dx.h, .slice q1 n3 q2, .slice q3 n4 q4⟩ from CBox.other12 H12.out HNE.out)
     have HBF := hid (show Below wr.heap.size wr (set12 wE g13 ⟨cx.h, .slice p1 n1 p2, .slice p3 n2 p4⟩) from Below.set12 HBE.out Lg13.out)
     change K _ (set12 wE g13 ⟨cx.h, .slice p1 n1 p2, .slice p3 n2 p4⟩)
     generalize set12 wE g13 ⟨cx.h, .slice p1 n1 p2, .slice p3 n2 p4⟩ = wF at H23 H22 HBF ⊢
     clear hHeld
     refine hK.out _ _ (by (try dsimp only); exact HKE.out _ HBF.out) (fun hHeld => ?_)
     clear hK K
     (try simp only [pq1, ls0, ls1])
     refine wpAnyH_done (by kernel_rfl) ?_ _
     refine NoPanic.normal ?_
     clear r0 fr0 r1 fr1 r2 fr2 r3 fr3 r4 fr4 r5 fr5 r6 fr6 r7 fr7 r8 fr8 r9 fr9 r10 fr10 r11 fr11
     go_wp2
     go_meet
     case rel => exact ⟨g12, g13, rfl, rfl, H22, H23, hid ⟨HNE.out, Lg12.out, Lg13.out⟩, HBF⟩
   case rest =>
    obtain ⟨g12, g13, rfl, rfl, HQ2, HQ3, HGG, HBS⟩ := hcut
    clear e0 u0 e1 u1 e2 u2 e3 u3 e4 u4 e5 u5 e6 u6 e7 u7 e8 u8 e9 u9 e10 u10 e11 u11 x11 y11 HKE hbc hbd
    by_cases hjm : j = m
    ·
     have hlst : ((j : Int) == (nf : Int) - 1) = true := by rw [beq_iff_eq]; have := HM.out; omega
     have hwm : IntKind.i64.wrap ((nf : Int) - 1) = (nf : Int) - 1 := by rw [IntKind.wrap_i64]; omega
     have HJM := hid hjm
     clear hjm
     go_upto_region 13 with fail
     go_cut [] from 92 to 93 (fun wx => Hid (CBox wx g12 25 ⟨cx.h, .slice p1 n1 p2, .slice p3 n2 p4⟩) ∧ Hid (CBox wx g13 25 ⟨dx.h, .slice q1 n3 q2, .slice q3 n4 q4⟩) ∧ Hid (Below wr.heap.size wr wx))
     case first =>
      obtain ⟨x0, x1, x2, x3, x4, x5, x6, x7, x8, x9, x10, x11⟩ := HQ2.out.cs
      (try dsimp only at x0 x1 x2 x3 x4 x5 x6 x7 x8 x9 x10 x11)
      obtain ⟨fr0, fr1, fr2, fr3, fr4, fr5, fr6, fr7, fr8, fr9, fr10, fr11⟩ := HQ2.out.frs
      obtain ⟨y0, y1, y2, y3, y4, y5, y6, y7, y8, y9, y10, y11⟩ := HQ3.out.cs
      (try dsimp only at y0 y1 y2 y3 y4 y5 y6 y7 y8 y9 y10 y11)
      obtain ⟨fq0, fq1, fq2, fq3, fq4, fq5, fq6, fq7, fq8, fq9, fq10, fq11⟩ := HQ3.out.frs
      have hne1 := HGG.out.1
      go_wp2
      go_meet
      case rel =>
       have h1 : CBox (set12 wc g12 ⟨cx.h, .slice p1 n1 p2, .slice p3 n2 p4⟩) g12 25 ⟨cx.h, .slice p1 n1 p2, .slice p3 n2 p4⟩ := CBox.set12 HQ2.out
       have h2 : CBox (set12 wc g12 ⟨cx.h, .slice p1 n1 p2, .slice p3 n2 p4⟩) g13 25 ⟨cx.h, .slice p1 n1 p2, .slice p3 n2 p4⟩ := CBox.other12 HQ3.out (Ne.symm hne1)
       exact ⟨hid (show CBox (set12 (set12 wc g12 ⟨cx.h, .slice p1 n1 p2, .slice p3 n2 p4⟩) g13 ⟨dx.h, .slice q1 n3 q2, .slice q3 n4 q4⟩) g12 25 ⟨cx.h, .slice p1 n1 p2, .slice p3 n2 p4⟩ from CBox.other12 h1 hne1), hid (show CBox (set12 (set12 wc g12 ⟨cx.h, .slice p1 n1 p2, .slice p3 n2 p4⟩) g13 ⟨dx.h, .slice q1 n3 q2, .slice q3 n4 q4⟩) g13 25 ⟨dx.h, .slice q1 n3 q2, .slice q3 n4 q4⟩ from CBox.set12 h2), hid (show Below wr.heap.size wr (set12 (set12 wc g12 ⟨cx.h, .slice p1 n1 p2, .slice p3 n2 p4⟩) g13 ⟨dx.h, .slice q1 n3 q2, .slice q3 n4 q4⟩) from Below.set12 (Below.set12 HBS.out HGG.out.2.1) HGG.out.2.2)⟩
     case rest =>
      obtain ⟨HR2, HR3, HBT⟩ := hcut
      clear HQ2 HQ3 HBS
      have HQ2 := HR2
      have HQ3 := HR3
      have HBS := HBT
      clear HR2 HR3 HBT
      obtain ⟨x0, x1, x2, x3, x4, x5, x6, x7, x8, x9, x10, x11⟩ := HQ2.out.cs
      (try dsimp only at x0 x1 x2 x3 x4 x5 x6 x7 x8 x9 x10 x11)
      obtain ⟨y0, y1, y2, y3, y4, y5, y6, y7, y8, y9, y10, y11⟩ := HQ3.out.cs
      (try dsimp only at y0 y1 y2 y3 y4 y5 y6 y7 y8 y9 y10 y11)
      obtain ⟨k1, hk1, hw1⟩ := HT.out
      have HC2 := hid (HCA.out m j (by rw [← HNF.out]; exact HM.out) (by rw [← HMF.out]; exact HM.out) (by rw [← HM.out]; exact HKL.out) wc (.agg #[.int .i64 cx.h.f0, .int .i64 cx.h.f1, .int .i64 cx.h.f2, .int .i64 cx.h.f3, .int .i64 cx.h.f4, .int .i64 cx.h.f5, .int .i64 cx.h.pair, .int .i64 cx.h.pl, .slice p1 n1 p2, .int .i64 cx.h.fn, .int .i64 cx.h.fl, .slice p3 n2 p4]) (.agg #[.int .i64 dx.h.f0, .int .i64 dx.h.f1, .int .i64 dx.h.f2, .int .i64 dx.h.f3, .int .i64 dx.h.f4, .int .i64 dx.h.f5, .int .i64 dx.h.pair, .int .i64 dx.h.pl, .slice q1 n3 q2, .int .i64 dx.h.fn, .int .i64 dx.h.fl, .slice q3 n4 q4]) k1 hk1 (HS.out.trans (HBL.out.then HBS.out)) (hw1.keep HBS.out) (by rw [if_pos HJM.out, HCX.out]; exact HVC.out.below HBS.out) (by rw [if_pos HJM.out, HDX.out]; exact HVD.out.below HBS.out))
      clear hw1 hk1
      go_wp2_with fail
      refine HC2.out.mono ?_
      rintro e' w2 ⟨⟨v, rfl, hv⟩, hst2, hk2⟩
      obtain ⟨fd, hfd⟩ : ∃ x, x = partF n c d m j := ⟨_, rfl⟩
      rw [← hfd] at hv
      obtain ⟨ra, rc, rb, rd, rfl, _, _⟩ := hv.form
      have hr := CoVN.raw (h := fd.h) hv
      obtain ⟨rn, hrn⟩ : ∃ n, n = fd.pairs.length := ⟨_, rfl⟩
      obtain ⟨rm, hrm⟩ : ∃ n, n = fd.funs.length := ⟨_, rfl⟩
      rw [← hrn, ← hrm] at hr ⊢
      have HFD := hid hfd
      clear hfd hrn hrm
      obtain ⟨L, hrow, hLL⟩ := HA.out
      have hrow1 := hrow.stay (Stay.of (N := (· = cw)) HBS.out) (fun b hb => by rw [hb]; have := HCW.out; have := HB.out.size; omega)
      have hrow2 := hrow1.stay hst2 (fun b hb => by rw [hb]; have := HCW.out; have := HB.out.size; omega)
      have HSW := HBS.out.size
      have hlg := hrow.lt
      have HR := hid (show RawCo w2 (BlkO W.heap.size g w2) ⟨fd.h, .slice ra rn rc, .slice rb rm rd⟩ fd from hr.mono (fun b hb => ⟨by have := HBL.out.size; have := hb.2; unfold Old at this; omega, hb.1, by have := hb.2; unfold Old at this; omega⟩) fun _ _ _ => rfl)
      obtain ⟨r', c0, c1, c2, c3, c4, c5, c6, c7, c8, c9, c10, c11, hfz⟩ := hrow2.get HKL.out
      have z0 := hfz (j * 12)
      have z1 := hfz (j * 12 + 1)
      have z2 := hfz (j * 12 + 2)
      have z3 := hfz (j * 12 + 3)
      have z4 := hfz (j * 12 + 4)
      have z5 := hfz (j * 12 + 5)
      have z6 := hfz (j * 12 + 6)
      have z7 := hfz (j * 12 + 7)
      have z8 := hfz (j * 12 + 8)
      have z9 := hfz (j * 12 + 9)
      have z10 := hfz (j * 12 + 10)
      have z11 := hfz (j * 12 + 11)
      have HROW2 := hid hrow2
      have HLL := hid hLL
      have HB2 := hid ((HBL.out.then HBS.out).trans hst2)
      have HN2 := hid hk2
      clear hst2 hk2 hr hv hrow hrow1 hrow2 hLL hfz hlg HSW HA
      go_wp2
      refine ⟨⟨j + 1, by have := HKL.out; omega, by go_num, ?_, ?_, ?_⟩, by have := HKL.out; simp [intOf]; omega⟩
      ·
       have hset := RowO.set (r := ⟨fd.h, .slice ra rn rc, .slice rb rm rd⟩) (c := fd) HROW2.out HKL.out HR.out
       refine hid ⟨L.set j fd, hset, fun i hi => ?_⟩
       have hLn := HROW2.out.1
       by_cases e : i = j
       ·
        rw [e, ← HFD.out]; simp [List.getD_eq_getElem?_getD, hLn, HKL.out]
       ·
        rw [← HLL.out i (by omega)]; simp [List.getD_eq_getElem?_getD, Ne.symm e]
      ·
       exact hid (Stay.setA (o := j * 12) (r := ⟨fd.h, .slice ra rn rc, .slice rb rm rd⟩) HB2.out (by rw [HGE.out]; exact Nat.le_refl _))
      ·
       refine hid ?_
       obtain ⟨k', h1, h2⟩ := HN2.out
       exact ⟨k', h1, show WalkC M cw k' (setA w2 g (j * 12) ⟨fd.h, .slice ra rn rc, .slice rb rm rd⟩) from VarIs.setA (o := j * 12) (r := ⟨fd.h, .slice ra rn rc, .slice rb rm rd⟩) h2 (by rw [HGE.out]; have := HCW.out; have := HB.out.size; omega)⟩
    ·
     have hlst : ((j : Int) == (nf : Int) - 1) = false := by apply beq_false_of_ne; have := HM.out; omega
     have hwm : IntKind.i64.wrap ((nf : Int) - 1) = (nf : Int) - 1 := by rw [IntKind.wrap_i64]; omega
     have HJM := hid hjm
     clear hjm
     obtain ⟨x0, x1, x2, x3, x4, x5, x6, x7, x8, x9, x10, x11⟩ := HQ2.out.cs
     (try dsimp only at x0 x1 x2 x3 x4 x5 x6 x7 x8 x9 x10 x11)
     obtain ⟨y0, y1, y2, y3, y4, y5, y6, y7, y8, y9, y10, y11⟩ := HQ3.out.cs
     (try dsimp only at y0 y1 y2 y3 y4 y5 y6 y7 y8 y9 y10 y11)
     obtain ⟨k1, hk1, hw1⟩ := HT.out
     have HC2 := hid (HCA.out m j (by rw [← HNF.out]; exact HM.out) (by rw [← HMF.out]; exact HM.out) (by rw [← HM.out]; exact HKL.out) wc (.agg #[.int .i64 dx.h.f0, .int .i64 dx.h.f1, .int .i64 dx.h.f2, .int .i64 dx.h.f3, .int .i64 dx.h.f4, .int .i64 dx.h.f5, .int .i64 dx.h.pair, .int .i64 dx.h.pl, .slice q1 n3 q2, .int .i64 dx.h.fn, .int .i64 dx.h.fl, .slice q3 n4 q4]) (.agg #[.int .i64 cx.h.f0, .int .i64 cx.h.f1, .int .i64 cx.h.f2, .int .i64 cx.h.f3, .int .i64 cx.h.f4, .int .i64 cx.h.f5, .int .i64 cx.h.pair, .int .i64 cx.h.pl, .slice p1 n1 p2, .int .i64 cx.h.fn, .int .i64 cx.h.fl, .slice p3 n2 p4]) k1 hk1 (HS.out.trans (HBL.out.then HBS.out)) (hw1.keep HBS.out) (by rw [if_neg HJM.out, HDX.out]; exact HVD.out.below HBS.out) (by rw [if_neg HJM.out, HCX.out]; exact HVC.out.below HBS.out))
     clear hw1 hk1
     go_wp2_with fail
     refine HC2.out.mono ?_
     rintro e' w2 ⟨⟨v, rfl, hv⟩, hst2, hk2⟩
     obtain ⟨fd, hfd⟩ : ∃ x, x = partF n c d m j := ⟨_, rfl⟩
     rw [← hfd] at hv
     obtain ⟨ra, rc, rb, rd, rfl, _, _⟩ := hv.form
     have hr := CoVN.raw (h := fd.h) hv
     obtain ⟨rn, hrn⟩ : ∃ n, n = fd.pairs.length := ⟨_, rfl⟩
     obtain ⟨rm, hrm⟩ : ∃ n, n = fd.funs.length := ⟨_, rfl⟩
     rw [← hrn, ← hrm] at hr ⊢
     have HFD := hid hfd
     clear hfd hrn hrm
     obtain ⟨L, hrow, hLL⟩ := HA.out
     have hrow1 := hrow.stay (Stay.of (N := (· = cw)) HBS.out) (fun b hb => by rw [hb]; have := HCW.out; have := HB.out.size; omega)
     have hrow2 := hrow1.stay hst2 (fun b hb => by rw [hb]; have := HCW.out; have := HB.out.size; omega)
     have HSW := HBS.out.size
     have hlg := hrow.lt
     have HR := hid (show RawCo w2 (BlkO W.heap.size g w2) ⟨fd.h, .slice ra rn rc, .slice rb rm rd⟩ fd from hr.mono (fun b hb => ⟨by have := HBL.out.size; have := hb.2; unfold Old at this; omega, hb.1, by have := hb.2; unfold Old at this; omega⟩) fun _ _ _ => rfl)
     obtain ⟨r', c0, c1, c2, c3, c4, c5, c6, c7, c8, c9, c10, c11, hfz⟩ := hrow2.get HKL.out
     have z0 := hfz (j * 12)
     have z1 := hfz (j * 12 + 1)
     have z2 := hfz (j * 12 + 2)
     have z3 := hfz (j * 12 + 3)
     have z4 := hfz (j * 12 + 4)
     have z5 := hfz (j * 12 + 5)
     have z6 := hfz (j * 12 + 6)
     have z7 := hfz (j * 12 + 7)
     have z8 := hfz (j * 12 + 8)
     have z9 := hfz (j * 12 + 9)
     have z10 := hfz (j * 12 + 10)
     have z11 := hfz (j * 12 + 11)
     have HROW2 := hid hrow2
     have HLL := hid hLL
     have HB2 := hid ((HBL.out.then HBS.out).trans hst2)
     have HN2 := hid hk2
     clear hst2 hk2 hr hv hrow hrow1 hrow2 hLL hfz hlg HSW HA
     go_wp2
     refine ⟨⟨j + 1, by have := HKL.out; omega, by go_num, ?_, ?_, ?_⟩, by have := HKL.out; simp [intOf]; omega⟩
     ·
      have hset := RowO.set (r := ⟨fd.h, .slice ra rn rc, .slice rb rm rd⟩) (c := fd) HROW2.out HKL.out HR.out
      refine hid ⟨L.set j fd, hset, fun i hi => ?_⟩
      have hLn := HROW2.out.1
      by_cases e : i = j
      ·
       rw [e, ← HFD.out]; simp [List.getD_eq_getElem?_getD, hLn, HKL.out]
      ·
       rw [← HLL.out i (by omega)]; simp [List.getD_eq_getElem?_getD, Ne.symm e]
     ·
      exact hid (Stay.setA (o := j * 12) (r := ⟨fd.h, .slice ra rn rc, .slice rb rm rd⟩) HB2.out (by rw [HGE.out]; exact Nat.le_refl _))
     ·
      refine hid ?_
      obtain ⟨k', h1, h2⟩ := HN2.out
      exact ⟨k', h1, show WalkC M cw k' (setA w2 g (j * 12) ⟨fd.h, .slice ra rn rc, .slice rb rm rd⟩) from VarIs.setA (o := j * 12) (r := ⟨fd.h, .slice ra rn rc, .slice rb rm rd⟩) h2 (by rw [HGE.out]; have := HCW.out; have := HB.out.size; omega)⟩
  ·
   have hlt : ¬ (j : Int) < nf := by omega
   have hjn : j = nf := by omega
   have HJ := hid hjn
   clear hgo hj hjn
   go_wp2
   refine bodyPost_ret (v := .tuple #[.int .i64 2, .int .i64 0, .slice (some ⟨g, 0, none⟩) nf nf]) ?_ ?_ ?_
   ·
    simp [results, Tryd.results89, go_sem]
   ·
    rfl
   ·
    obtain ⟨L, hrow, hLL⟩ := HA.out
    obtain ⟨k1, hk1, hw1⟩ := HT.out
    refine ⟨⟨_, by rw [HPX.out], ?_⟩, HS.out.trans HBL.out, k1, by have := HLS.out j (by rw [HJ.out, HNF.out]; exact Nat.le_refl _) (by rw [HJ.out, HMF.out]; exact Nat.le_refl _); omega, hw1⟩
    rw [HPX.out]
    have e : L = rowF n c d := rowF_eq n c d L m (by rw [← HNF.out]; exact HM.out) (by rw [hrow.1]; exact HM.out) (fun i hi => hLL i (by rw [HJ.out, HM.out]; exact hi))
    rw [← e]
    exact CoSN.mono hrow.done fun b _ h => Nat.lt_of_lt_of_le h HB.out.size
end Go.Proofs.YtlalnkabfigodaaDoor
