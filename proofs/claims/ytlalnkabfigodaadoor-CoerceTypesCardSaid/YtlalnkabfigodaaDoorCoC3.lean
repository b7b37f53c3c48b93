import Derived.Test.YtlalnkabfigodaaDoorCoC2
namespace Go.Proofs.YtlalnkabfigodaaDoor
open Go.RowKit

def rowF (n : Nat) (c d : Co) : List Co := ((List.range (c.funs.length - 1)).map fun i => compF n (d.funs.getD i co0) (c.funs.getD i co0)) ++ [compF n (c.funs.getD (c.funs.length - 1) co0) (d.funs.getD (c.funs.length - 1) co0)]
def compFn (n : Nat) (c d : Co) : Int × Int × List Co := if c.h.fn = 1 ∨ d.h.fn = 0 then (c.h.fn, c.h.fl, c.funs) else if d.h.fn = 1 ∨ c.h.fn = 0 then (d.h.fn, d.h.fl, d.funs) else
  if c.h.fn = 3 ∨ d.h.fn = 3 ∨ c.funs.length ≠ d.funs.length then (3, 0, []) else (2, 0, rowF n c d)
/-- what the first j of the composed procedures' parts cost -/
def sumF (c d : Co) (j : Nat) : Nat := ((List.range j).map fun i => szC (d.funs.getD i co0) * szC (c.funs.getD i co0)).sum
theorem sumF_succ (c d : Co) (j : Nat) : sumF c d (j + 1) = sumF c d j + szC (d.funs.getD j co0) * szC (c.funs.getD j co0) := by
  unfold sumF
  rw [List.range_succ, List.map_append, List.sum_append]
  simp
theorem sumF_mono (c d : Co) (i j : Nat) (h : i ≤ j) : sumF c d i ≤ sumF c d j := by
  induction j with
  | zero => obtain rfl : i = 0 := by omega
            exact Nat.le_refl _
  | succ j ih =>
    by_cases e : i = j + 1
    · rw [e]; exact Nat.le_refl _
    · have := ih (by omega); rw [sumF_succ]; omega
theorem sumF_le (c d : Co) (j : Nat) (h1 : j ≤ c.funs.length) (h2 : j ≤ d.funs.length) : sumF c d j ≤ both7 (szCs c.funs) (szCs d.funs) := by
  have h := funs_cost d.funs c.funs j h2 h1
  have h3 := mul_le7 (szCs_le d.funs j) (szCs_le c.funs j)
  unfold both7 sumF
  rw [Nat.mul_comm (szCs c.funs)]
  omega
/-- the i-th of the composed parts -/
def partF (n : Nat) (c d : Co) (m i : Nat) : Co := if i = m then compF n (c.funs.getD i co0) (d.funs.getD i co0) else compF n (d.funs.getD i co0) (c.funs.getD i co0)
theorem rowF_eq (n : Nat) (c d : Co) (L : List Co) (m : Nat) (hm : c.funs.length = m + 1) (hL : L.length = m + 1) (h : ∀ i, i < m + 1 → L.getD i co0 = partF n c d m i) : L = rowF n c d := by
  unfold rowF
  rw [hm, Nat.add_sub_cancel]
  refine List.ext_getElem (by simp [hL]) fun i h1 h2 => ?_
  have h3 := h i (by omega)
  rw [List.getD_eq_getElem?_getD, List.getElem?_eq_getElem h1] at h3
  have h4 : L[i] = partF n c d m i := h3
  rw [h4, List.getElem_append]
  unfold partF
  split
  · rename_i e
    rw [dif_neg (by simp; omega)]
    simp [e]
  · rename_i e
    have hi : i < m := by omega
    rw [dif_pos (by simpa using hi)]
    simp

theorem VarIs.setA {w : World} {c g o : Nat} {T : TypeId} {v : Value} {r : RawC} (h : VarIs w c T v) (hne : c ≠ g) : VarIs (Go.Proofs.YtlalnkabfigodaaDoor.setA w g o r) c T v := (VarIs.off (VarIs.off (VarIs.off (VarIs.off (VarIs.off (VarIs.off (VarIs.off (VarIs.off (VarIs.off (VarIs.off (VarIs.off (VarIs.off h hne (i := o) (x := .int .i64 r.h.f0)) hne (i := o + 1) (x := .int .i64 r.h.f1)) hne (i := o + 2) (x := .int .i64 r.h.f2)) hne (i := o + 3) (x := .int .i64 r.h.f3)) hne (i := o + 4) (x := .int .i64 r.h.f4)) hne (i := o + 5) (x := .int .i64 r.h.f5)) hne (i := o + 6) (x := .int .i64 r.h.pair)) hne (i := o + 7) (x := .int .i64 r.h.pl)) hne (i := o + 8) (x := r.pv)) hne (i := o + 9) (x := .int .i64 r.h.fn)) hne (i := o + 10) (x := .int .i64 r.h.fl)) hne (i := o + 11) (x := r.fv))

set_option maxRecDepth 100000 in
set_option maxHeartbeats 32000000 in
theorem cfuns_p (M n : Nat) (hM : M ≤ 2147483647) (ih : CompOK M n) (c d : Co) (vc vd : Value) (w : World) (cw k e : Nat) (oc : okC c) (od : okC d) (hht : htC c + htC d ≤ n + 1) (hk : k + both7 (szCs c.funs) (szCs d.funs) ≤ M) (he : e + n + 1 ≤ 131000) (hT : TzW w) (hw : WalkC M cw k w) (hc : CoVN (· = cw) w vc c) (hd : CoVN (· = cw) w vd d) :
    Calls Tryd.prog 89 #[.pointer (some ⟨cw, 0, none⟩), vc, vd, .int .i64 e] w (PrPost M cw k (both7 (szCs c.funs) (szCs d.funs)) (compFn n c d).1 (compFn n c d).2.1 (compFn n c d).2.2 w) := by
  have sc := oc.shape
  have sd := od.shape
  have hcw := hw.lt
  have hne := hT.walk hw
  have hhc := htC_eq c
  have hhd := htC_eq d
  have hcpc : ∀ (pa : Option Addr) (pc : Nat) (w1 : World), WalkC M cw k w1 → CoS w1 (Lc (· = cw) w1) (.slice pa c.funs.length pc) c.funs → Calls Tryd.prog 93 #[.pointer (some ⟨cw, 0, none⟩), .slice pa c.funs.length pc, .int .i64 e] w1 fun e w' => (∃ v, e = .returned v ∧ CoS w' (Lc (Old w1.heap.size) w') v c.funs) ∧ Stay (· = cw) w1 w' ∧ ∃ k', k' ≤ k + both7 (szCs c.funs) (szCs d.funs) ∧ WalkC M cw k' w' := fun pa pc w1 h1 h2 => by
    have hl : szCs c.funs ≤ both7 (szCs c.funs) (szCs d.funs) := by unfold both7; omega
    refine (copies_of M _ (copied_any M hM _) c.funs pa pc w1 cw k e (Nat.le_refl _) (by omega) (by have := htC_pos d; omega) (by have := sc.thin.len; omega) (fun x hx => sc.thin.fun hx) h1 h2).mono ?_
    rintro e w2 ⟨h3, h4, k', h5, h6⟩
    exact ⟨h3, h4, k', by omega, h6⟩
  have hcpd : ∀ (pa : Option Addr) (pc : Nat) (w1 : World), WalkC M cw k w1 → CoS w1 (Lc (· = cw) w1) (.slice pa d.funs.length pc) d.funs → Calls Tryd.prog 93 #[.pointer (some ⟨cw, 0, none⟩), .slice pa d.funs.length pc, .int .i64 e] w1 fun e w' => (∃ v, e = .returned v ∧ CoS w' (Lc (Old w1.heap.size) w') v d.funs) ∧ Stay (· = cw) w1 w' ∧ ∃ k', k' ≤ k + both7 (szCs c.funs) (szCs d.funs) ∧ WalkC M cw k' w' := fun pa pc w1 h1 h2 => by
    have hl : szCs d.funs ≤ both7 (szCs c.funs) (szCs d.funs) := by unfold both7; omega
    refine (copies_of M _ (copied_any M hM _) d.funs pa pc w1 cw k e (Nat.le_refl _) (by omega) (by have := htC_pos c; omega) (by have := sd.thin.len; omega) (fun x hx => sd.thin.fun hx) h1 h2).mono ?_
    rintro e w2 ⟨h3, h4, k', h5, h6⟩
    exact ⟨h3, h4, k', by omega, h6⟩
  have hls := fun j h1 h2 => sumF_le c d j h1 h2
  obtain ⟨cost, hcost⟩ : ∃ x, x = both7 (szCs c.funs) (szCs d.funs) := ⟨_, rfl⟩
  rw [← hcost] at hk hcpc hcpd hls ⊢
  have hca : ∀ (m i : Nat), c.funs.length = m + 1 → d.funs.length = m + 1 → i < m + 1 → ∀ (w1 : World) (u v : Value) (k1 : Nat), k1 ≤ k + sumF c d i → Stay (· = cw) w w1 → WalkC M cw k1 w1 → CoVN (· = cw) w1 u (if i = m then c.funs.getD i co0 else d.funs.getD i co0) → CoVN (· = cw) w1 v (if i = m then d.funs.getD i co0 else c.funs.getD i co0) →
      Calls Tryd.prog 63 #[.pointer (some ⟨cw, 0, none⟩), u, v, .int .i64 ((e : Int) + 1)] w1 fun e w' => (∃ v, e = .returned v ∧ CoVN (Old w1.heap.size) w' v (partF n c d m i)) ∧ Stay (· = cw) w1 w' ∧ ∃ k', k' ≤ k + sumF c d (i + 1) ∧ WalkC M cw k' w' := fun m i hm1 hm2 hi w1 u v k1 h3 h4 h5 h6 h7 => by
    have hxm := getC_mem (l := c.funs) (j := i) (by omega)
    have hym := getC_mem (l := d.funs) (j := i) (by omega)
    have a1 := htC_funs hxm
    have a2 := htC_funs hym
    have a3 := hls (i + 1) (by omega) (by omega)
    have a4 := sumF_succ c d i
    by_cases hl : i = m
    · rw [if_pos hl] at h6 h7
      have e1 : partF n c d m i = compF n (c.funs.getD i co0) (d.funs.getD i co0) := by unfold partF; rw [if_pos hl]
      have e2 : szC (c.funs.getD i co0) * szC (d.funs.getD i co0) = szC (d.funs.getD i co0) * szC (c.funs.getD i co0) := Nat.mul_comm _ _
      refine (ih _ _ u v w1 cw k1 (e + 1) (oc.fun hxm) (od.fun hym) (by omega) (by omega) (by omega) (hT.stay h4 (Ne.symm hne)) h5 h6 h7).mono ?_
      rintro e w2 ⟨h8, h9, k', h10, h11⟩
      rw [e1]
      exact ⟨h8, h9, k', by omega, h11⟩
    · rw [if_neg hl] at h6 h7
      have e1 : partF n c d m i = compF n (d.funs.getD i co0) (c.funs.getD i co0) := by unfold partF; rw [if_neg hl]
      refine (ih _ _ u v w1 cw k1 (e + 1) (od.fun hym) (oc.fun hxm) (by omega) (by omega) (by omega) (hT.stay h4 (Ne.symm hne)) h5 h6 h7).mono ?_
      rintro e w2 ⟨h8, h9, k', h10, h11⟩
      rw [e1]
      exact ⟨h8, h9, k', by omega, h11⟩
  obtain ⟨P, hP⟩ : ∃ P, P = compFn n c d := ⟨_, rfl⟩
  rw [← hP]
  unfold compFn at hP
  have hoc := sc.own
  have hod := sd.own
  obtain ⟨pa, pc, fa, fc, rfl, hp, hf⟩ := hc.form
  obtain ⟨np, hnp⟩ : ∃ n, n = c.pairs.length := ⟨_, rfl⟩
  obtain ⟨nf, hnf⟩ : ∃ n, n = c.funs.length := ⟨_, rfl⟩
  obtain ⟨qa, qc, ga, gc, rfl, hq, hg⟩ := hd.form
  obtain ⟨mp, hmp⟩ : ∃ n, n = d.pairs.length := ⟨_, rfl⟩
  obtain ⟨mf, hmf⟩ : ∃ n, n = d.funs.length := ⟨_, rfl⟩
  have hcpc := hcpc fa fc
  have hcpd := hcpd ga gc
  rw [← hnf] at hf hcpc
  rw [← hmf] at hg hcpd
  rw [← hnp, ← hnf]
  rw [← hmp, ← hmf]
  obtain ⟨W, hW⟩ : ∃ W, W = (w.alloc (.cells #[.int .i64 c.h.f0, .int .i64 c.h.f1, .int .i64 c.h.f2, .int .i64 c.h.f3, .int .i64 c.h.f4, .int .i64 c.h.f5, .int .i64 c.h.pair, .int .i64 c.h.pl, .slice pa np pc, .int .i64 c.h.fn, .int .i64 c.h.fl, .slice fa nf fc] 25)).alloc (.cells #[.int .i64 d.h.f0, .int .i64 d.h.f1, .int .i64 d.h.f2, .int .i64 d.h.f3, .int .i64 d.h.f4, .int .i64 d.h.f5, .int .i64 d.h.pair, .int .i64 d.h.pl, .slice qa mp qc, .int .i64 d.h.fn, .int .i64 d.h.fl, .slice ga mf gc] 25) := ⟨_, rfl⟩
  have hb : Below w.heap.size w W := by rw [hW]; exact ((Below.refl _ _).alloc (Nat.le_refl _) _).alloc (by simp) _
  have HXC := Lib.hid (show CBox W w.heap.size 25 ⟨c.h, .slice pa np pc, .slice fa nf fc⟩ by rw [hW]; exact (CBox.made w 25 ⟨c.h, .slice pa np pc, .slice fa nf fc⟩).keep ((Below.refl _ _).alloc (Nat.le_refl _) _))
  have HXD := Lib.hid (show CBox W (w.heap.size + 1) 25 ⟨d.h, .slice qa mp qc, .slice ga mf gc⟩ by rw [hW]; have := CBox.made (w.alloc (.cells #[.int .i64 c.h.f0, .int .i64 c.h.f1, .int .i64 c.h.f2, .int .i64 c.h.f3, .int .i64 c.h.f4, .int .i64 c.h.f5, .int .i64 c.h.pair, .int .i64 c.h.pl, .slice pa np pc, .int .i64 c.h.fn, .int .i64 c.h.fl, .slice fa nf fc] 25)) 25 ⟨d.h, .slice qa mp qc, .slice ga mf gc⟩; simp only [alloc_hs7] at this; exact this)
  have HSZ := Lib.hid (show W.heap.size = w.heap.size + 2 by rw [hW]; simp)
  have HB := Lib.hid hb
  have HS := Lib.hid (Stay.of (N := (· = cw)) hb)
  have HWK := Lib.hid (hw.keep hb)
  have HCW := Lib.hid hcw
  have HCF := Lib.hid (CoSN.below hf hb)
  have HDF := Lib.hid (CoSN.below hg hb)
  have HCPC := Lib.hid hcpc
  have HCPD := Lib.hid hcpd
  have HCA := Lib.hid hca
  have HLS := Lib.hid hls
  have HOC := Lib.hid hoc
  have HOD := Lib.hid hod
  have HNF := Lib.hid hnf
  have HMF := Lib.hid hmf
  have HP := Lib.hid hP
  have HW := Lib.hid hW
  have he2 : (e : Int) ≤ 131000 := by omega
  have hwr : IntKind.i64.wrap ((e : Int) + 1) = (e : Int) + 1 := by rw [IntKind.wrap_i64]; omega
  clear hb hcpc hcpd hca hls hoc hod hP hW hcw hne hhc hhd hcost hk he hT hw hc hd hht sc sd oc od hM ih hp hf hq hg hnp hnf hmp hmf
  have x0 : W.cell? ⟨w.heap.size, 0, none⟩ = some (.int .i64 c.h.f0) := HXC.out.c0
  have x1 : W.cell? ⟨w.heap.size, 1, none⟩ = some (.int .i64 c.h.f1) := HXC.out.c1
  have x2 : W.cell? ⟨w.heap.size, 2, none⟩ = some (.int .i64 c.h.f2) := HXC.out.c2
  have x3 : W.cell? ⟨w.heap.size, 3, none⟩ = some (.int .i64 c.h.f3) := HXC.out.c3
  have x4 : W.cell? ⟨w.heap.size, 4, none⟩ = some (.int .i64 c.h.f4) := HXC.out.c4
  have x5 : W.cell? ⟨w.heap.size, 5, none⟩ = some (.int .i64 c.h.f5) := HXC.out.c5
  have x6 : W.cell? ⟨w.heap.size, 6, none⟩ = some (.int .i64 c.h.pair) := HXC.out.c6
  have x7 : W.cell? ⟨w.heap.size, 7, none⟩ = some (.int .i64 c.h.pl) := HXC.out.c7
  have x8 : W.cell? ⟨w.heap.size, 8, none⟩ = some (.slice pa np pc) := HXC.out.c8
  have x9 : W.cell? ⟨w.heap.size, 9, none⟩ = some (.int .i64 c.h.fn) := HXC.out.c9
  have x10 : W.cell? ⟨w.heap.size, 10, none⟩ = some (.int .i64 c.h.fl) := HXC.out.c10
  have x11 : W.cell? ⟨w.heap.size, 11, none⟩ = some (.slice fa nf fc) := HXC.out.c11
  have y0 : W.cell? ⟨(w.heap.size + 1), 0, none⟩ = some (.int .i64 d.h.f0) := HXD.out.c0
  have y1 : W.cell? ⟨(w.heap.size + 1), 1, none⟩ = some (.int .i64 d.h.f1) := HXD.out.c1
  have y2 : W.cell? ⟨(w.heap.size + 1), 2, none⟩ = some (.int .i64 d.h.f2) := HXD.out.c2
  have y3 : W.cell? ⟨(w.heap.size + 1), 3, none⟩ = some (.int .i64 d.h.f3) := HXD.out.c3
  have y4 : W.cell? ⟨(w.heap.size + 1), 4, none⟩ = some (.int .i64 d.h.f4) := HXD.out.c4
  have y5 : W.cell? ⟨(w.heap.size + 1), 5, none⟩ = some (.int .i64 d.h.f5) := HXD.out.c5
  have y6 : W.cell? ⟨(w.heap.size + 1), 6, none⟩ = some (.int .i64 d.h.pair) := HXD.out.c6
  have y7 : W.cell? ⟨(w.heap.size + 1), 7, none⟩ = some (.int .i64 d.h.pl) := HXD.out.c7
  have y8 : W.cell? ⟨(w.heap.size + 1), 8, none⟩ = some (.slice qa mp qc) := HXD.out.c8
  have y9 : W.cell? ⟨(w.heap.size + 1), 9, none⟩ = some (.int .i64 d.h.fn) := HXD.out.c9
  have y10 : W.cell? ⟨(w.heap.size + 1), 10, none⟩ = some (.int .i64 d.h.fl) := HXD.out.c10
  have y11 : W.cell? ⟨(w.heap.size + 1), 11, none⟩ = some (.slice ga mf gc) := HXD.out.c11
  go_enter Tryd.func89, Tryd.ntmps89
  go_upto_region 1 with fail
  rw [← HW.out]
  clear HW
  by_cases a1 : c.h.fn = 1
  · have b1 : (c.h.fn == 1) = true := by rw [a1]; rfl
    have HCOND := Lib.hid (show c.h.fn = 1 ∨ d.h.fn = 0 from .inl a1)
    clear a1
    have HPX := Lib.hid (show P = (c.h.fn, c.h.fl, c.funs) by rw [HP.out, if_pos HCOND.out])
    go_upto_region 2 with fail
    (try dsimp only [List.append])
    refine wp_region_noPanic ?_
    refine wp_region_held_drew (S := (fun w' => w'.cell? ⟨w.heap.size, 9, none⟩ = some (.int .i64 c.h.fn) ∧ w'.cell? ⟨w.heap.size, 10, none⟩ = some (.int .i64 c.h.fl) ∧ w'.cell? ⟨w.heap.size, 11, none⟩ = some (.slice fa nf fc))) (by kernel_rfl) (by (try dsimp only); exact ⟨(HXC.out.keep (Below.refl W.heap.size W).drew).c9, (HXC.out.keep (Below.refl W.heap.size W).drew).c10, (HXC.out.keep (Below.refl W.heap.size W).drew).c11⟩) (fun hHeld => ?_)
    have hdr : Below W.heap.size W W.drew := (Below.refl _ _).drew
    have HXE := Lib.hid (HXC.out.keep hdr)
    have HSE := Lib.hid (HS.out.then hdr)
    have HWE := Lib.hid (HWK.out.keep hdr)
    have HPE := Lib.hid (CoSN.below HCF.out hdr)
    have HDZ := Lib.hid hdr.size
    clear hdr
    generalize W.drew = wd at hHeld HXE HSE HWE HPE HDZ ⊢
    refine' tk_any 0 23 (v := _) ?hi94018 ?hd94018 (by kernel_rfl) (by kernel_rfl) (by kernel_rfl) (fun _ _ _ h => h) ?hy94018 hHeld ?hr94018
    case hi94018 => (simp only [List.getElem?_toArray, List.getElem?_cons_zero]; rfl)
    case hd94018 => rfl
    case hy94018 =>
      refine' Or.inl ⟨?hw94018, ?hx94018⟩
      case hw94018 => rfl
      case hx94018 => (intro w hSw; (try dsimp only at hSw); go_simp; (try with_reducible rfl))
    (try simp only [Act.put, List.setIfInBounds_toArray, List.set_cons_zero, List.set_cons_succ])
    refine' tk_any 1 24 (v := _) ?hi94019 ?hd94019 (by kernel_rfl) (by kernel_rfl) (by kernel_rfl) (fun _ _ _ h => h) ?hy94019 hHeld ?hr94019
    case hi94019 => (simp only [List.getElem?_toArray, List.getElem?_cons_succ, List.getElem?_cons_zero]; rfl)
    case hd94019 => rfl
    case hy94019 =>
      refine' Or.inl ⟨?hw94019, ?hx94019⟩
      case hw94019 => rfl
      case hx94019 => (intro w hSw; (try dsimp only at hSw); go_simp; (try with_reducible rfl))
    (try simp only [Act.put, List.setIfInBounds_toArray, List.set_cons_zero, List.set_cons_succ])
    refine' tk_any 2 25 (v := _) ?hi94020 ?hd94020 (by kernel_rfl) (by kernel_rfl) (by kernel_rfl) (fun _ _ _ h => h) ?hy94020 hHeld ?hr94020
    case hi94020 => (simp only [List.getElem?_toArray, List.getElem?_cons_succ, List.getElem?_cons_zero]; rfl)
    case hd94020 => rfl
    case hy94020 =>
      refine' Or.inl ⟨?hw94020, ?hx94020⟩
      case hw94020 => rfl
      case hx94020 => (intro w hSw; (try dsimp only at hSw); go_simp; (try with_reducible rfl))
    (try simp only [Act.put, List.setIfInBounds_toArray, List.set_cons_zero, List.set_cons_succ])
    refine' tk_any 3 26 (v := _) ?hi94021 ?hd94021 (by kernel_rfl) (by kernel_rfl) (by kernel_rfl) (fun _ _ _ h => h) ?hy94021 hHeld ?hr94021
    case hi94021 => (simp only [List.getElem?_toArray, List.getElem?_cons_succ, List.getElem?_cons_zero]; rfl)
    case hd94021 => rfl
    case hy94021 =>
      refine' Or.inl ⟨?hw94021, ?hx94021⟩
      case hw94021 => rfl
      case hx94021 => (intro w hSw; (try dsimp only at hSw); go_simp; (try with_reducible rfl))
    (try simp only [Act.put, List.setIfInBounds_toArray, List.set_cons_zero, List.set_cons_succ])
    refine' tk_any 4 27 (v := _) ?hi94022 ?hd94022 (by kernel_rfl) (by kernel_rfl) (by kernel_rfl) (fun _ _ _ h => h) ?hy94022 hHeld ?hr94022
    case hi94022 => (simp only [List.getElem?_toArray, List.getElem?_cons_succ, List.getElem?_cons_zero]; rfl)
    case hd94022 => rfl
    case hy94022 =>
      refine' Or.inl ⟨?hw94022, ?hx94022⟩
      case hw94022 => rfl
      case hx94022 => (intro w hSw; (try dsimp only at hSw); go_simp; (try with_reducible rfl))
    (try simp only [Act.put, List.setIfInBounds_toArray, List.set_cons_zero, List.set_cons_succ])
    refine' tk_any 5 28 (v := _) ?hi94023 ?hd94023 (by kernel_rfl) (by kernel_rfl) (by kernel_rfl) (fun _ _ _ h => h) ?hy94023 hHeld ?hr94023
    case hi94023 => (simp only [List.getElem?_toArray, List.getElem?_cons_succ, List.getElem?_cons_zero]; rfl)
    case hd94023 => rfl
    case hy94023 =>
      refine' Or.inl ⟨?hw94023, ?hx94023⟩
      case hw94023 => rfl
      case hx94023 => (intro w hSw; (try dsimp only at hSw); go_simp; (try with_reducible rfl))
    (try simp only [Act.put, List.setIfInBounds_toArray, List.set_cons_zero, List.set_cons_succ])
    refine' tk_any 6 29 (v := _) ?hi94024 ?hd94024 (by kernel_rfl) (by kernel_rfl) (by kernel_rfl) (fun _ _ _ h => h) ?hy94024 hHeld ?hr94024
    case hi94024 => (simp only [List.getElem?_toArray, List.getElem?_cons_succ, List.getElem?_cons_zero]; rfl)
    case hd94024 => rfl
    case hy94024 =>
      refine' Or.inl ⟨?hw94024, ?hx94024⟩
      case hw94024 => rfl
      case hx94024 => (intro w hSw; (try dsimp only at hSw); go_simp; (try with_reducible rfl))
    (try simp only [Act.put, List.setIfInBounds_toArray, List.set_cons_zero, List.set_cons_succ])
    refine' tk_any 7 30 (v := _) ?hi94025 ?hd94025 (by kernel_rfl) (by kernel_rfl) (by kernel_rfl) (fun _ _ _ h => h) ?hy94025 hHeld ?hr94025
    case hi94025 => (simp only [List.getElem?_toArray, List.getElem?_cons_succ, List.getElem?_cons_zero]; rfl)
    case hd94025 => rfl
    case hy94025 =>
      refine' Or.inl ⟨?hw94025, ?hx94025⟩
      case hw94025 => rfl
      case hx94025 => (intro w hSw; (try dsimp only at hSw); go_simp; (try with_reducible rfl))
    (try simp only [Act.put, List.setIfInBounds_toArray, List.set_cons_zero, List.set_cons_succ])
    refine' tk_call 8 ?hi94026 (by kernel_rfl) ?hr94026
    case hi94026 => (simp only [List.getElem?_toArray, List.getElem?_cons_succ, List.getElem?_cons_zero]; rfl)
    intro K hK
    go_simp
    go_at_call 93
    refine (HCPC.out wd HWE.out HPE.out).mono ?_
    rintro e2 w2 ⟨⟨v, rfl, hv⟩, hs2, hk2⟩
    have HV := Lib.hid hv
    have HS2 := Lib.hid (HSE.out.trans hs2)
    have HK2 := Lib.hid hk2
    have HX2 := Lib.hid (HXE.out.stay hs2 (by have := HCW.out; omega))
    clear hv hs2 hk2
    go_wp2_with fail
    clear hHeld
    refine hK.out _ _ (by (try dsimp only); exact ⟨HX2.out.c9, HX2.out.c10, HX2.out.c11⟩) (fun hHeld => ?_)
    clear hK K
    (try simp only [Act.put, List.setIfInBounds_toArray, List.set_cons_zero, List.set_cons_succ])
    refine' tk_any 9 8 (v := _) ?hi94027 ?hd94027 (by kernel_rfl) (by kernel_rfl) (by kernel_rfl) (fun _ _ _ h => h) ?hy94027 hHeld ?hr94027
    case hi94027 => (simp only [List.getElem?_toArray, List.getElem?_cons_succ, List.getElem?_cons_zero]; rfl)
    case hd94027 => rfl
    case hy94027 =>
      refine' Or.inl ⟨?hw94027, ?hx94027⟩
      case hw94027 => rfl
      case hx94027 => (intro w hSw; (try dsimp only at hSw); go_simp; (try with_reducible rfl))
    (try simp only [Act.put, List.setIfInBounds_toArray, List.set_cons_zero, List.set_cons_succ])
    refine' tk_any 10 9 (v := _) ?hi94028 ?hd94028 (by kernel_rfl) (by kernel_rfl) (by kernel_rfl) (fun _ _ _ h => h) ?hy94028 hHeld ?hr94028
    case hi94028 => (simp only [List.getElem?_toArray, List.getElem?_cons_succ, List.getElem?_cons_zero]; rfl)
    case hd94028 => rfl
    case hy94028 =>
      refine' Or.inl ⟨?hw94028, ?hx94028⟩
      case hw94028 => rfl
      case hx94028 => (intro w hSw; (try dsimp only at hSw); go_simp; (try with_reducible rfl))
    (try simp only [Act.put, List.setIfInBounds_toArray, List.set_cons_zero, List.set_cons_succ])
    refine' tk_any 11 10 (v := _) ?hi94029 ?hd94029 (by kernel_rfl) (by kernel_rfl) (by kernel_rfl) (fun _ _ _ h => h) ?hy94029 hHeld ?hr94029
    case hi94029 => (simp only [List.getElem?_toArray, List.getElem?_cons_succ, List.getElem?_cons_zero]; rfl)
    case hd94029 => rfl
    case hy94029 =>
      refine' Or.inl ⟨?hw94029, ?hx94029⟩
      case hw94029 => rfl
      case hx94029 => (intro w hSw; (try dsimp only at hSw); go_simp; (try with_reducible rfl))
    (try simp only [Act.put, List.setIfInBounds_toArray, List.set_cons_zero, List.set_cons_succ])
    refine wpAnyH_done (by kernel_rfl) ?_ _
    refine NoPanic.normal ?_
    go_wp2
    refine bodyPost_ret (v := .tuple #[.int .i64 c.h.fn, .int .i64 c.h.fl, v]) ?_ ?_ ?_
    · simp [results, Tryd.results89, go_sem]
    · rfl
    · refine ⟨⟨v, ?_, ?_⟩, HS2.out, HK2.out⟩
      · rw [HPX.out]
      · rw [HPX.out]; exact CoSN.mono HV.out fun b _ h => Nat.lt_of_lt_of_le h (Nat.le_trans HB.out.size HDZ.out)
  have b1 : (c.h.fn == 1) = false := beq_false_of_ne a1
  by_cases a2 : d.h.fn = 0
  · have b2 : (d.h.fn == 0) = true := by rw [a2]; rfl
    have HCOND := Lib.hid (show c.h.fn = 1 ∨ d.h.fn = 0 from .inr a2)
    clear a1 a2
    have HPX := Lib.hid (show P = (c.h.fn, c.h.fl, c.funs) by rw [HP.out, if_pos HCOND.out])
    go_upto_region 2 with fail
    (try dsimp only [List.append])
    refine wp_region_noPanic ?_
    refine wp_region_held_drew (S := (fun w' => w'.cell? ⟨w.heap.size, 9, none⟩ = some (.int .i64 c.h.fn) ∧ w'.cell? ⟨w.heap.size, 10, none⟩ = some (.int .i64 c.h.fl) ∧ w'.cell? ⟨w.heap.size, 11, none⟩ = some (.slice fa nf fc))) (by kernel_rfl) (by (try dsimp only); exact ⟨(HXC.out.keep (Below.refl W.heap.size W).drew).c9, (HXC.out.keep (Below.refl W.heap.size W).drew).c10, (HXC.out.keep (Below.refl W.heap.size W).drew).c11⟩) (fun hHeld => ?_)
    have hdr : Below W.heap.size W W.drew := (Below.refl _ _).drew
    have HXE := Lib.hid (HXC.out.keep hdr)
    have HSE := Lib.hid (HS.out.then hdr)
    have HWE := Lib.hid (HWK.out.keep hdr)
    have HPE := Lib.hid (CoSN.below HCF.out hdr)
    have HDZ := Lib.hid hdr.size
    clear hdr
    generalize W.drew = wd at hHeld HXE HSE HWE HPE HDZ ⊢
    refine' tk_any 0 23 (v := _) ?hi94030 ?hd94030 (by kernel_rfl) (by kernel_rfl) (by kernel_rfl) (fun _ _ _ h => h) ?hy94030 hHeld ?hr94030
    case hi94030 => (simp only [List.getElem?_toArray, List.getElem?_cons_zero]; rfl)
    case hd94030 => rfl
    case hy94030 =>
      refine' Or.inl ⟨?hw94030, ?hx94030⟩
      case hw94030 => rfl
      case hx94030 => (intro w hSw; (try dsimp only at hSw); go_simp; (try with_reducible rfl))
    (try simp only [Act.put, List.setIfInBounds_toArray, List.set_cons_zero, List.set_cons_succ])
    refine' tk_any 1 24 (v := _) ?hi94031 ?hd94031 (by kernel_rfl) (by kernel_rfl) (by kernel_rfl) (fun _ _ _ h => h) ?hy94031 hHeld ?hr94031
    case hi94031 => (simp only [List.getElem?_toArray, List.getElem?_cons_succ, List.getElem?_cons_zero]; rfl)
    case hd94031 => rfl
    case hy94031 =>
      refine' Or.inl ⟨?hw94031, ?hx94031⟩
      case hw94031 => rfl
      case hx94031 => (intro w hSw; (try dsimp only at hSw); go_simp; (try with_reducible rfl))
    (try simp only [Act.put, List.setIfInBounds_toArray, List.set_cons_zero, List.set_cons_succ])
    refine' tk_any 2 25 (v := _) ?hi94032 ?hd94032 (by kernel_rfl) (by kernel_rfl) (by kernel_rfl) (fun _ _ _ h => h) ?hy94032 hHeld ?hr94032
    case hi94032 => (simp only [List.getElem?_toArray, List.getElem?_cons_succ, List.getElem?_cons_zero]; rfl)
    case hd94032 => rfl
    case hy94032 =>
      refine' Or.inl ⟨?hw94032, ?hx94032⟩
      case hw94032 => rfl
      case hx94032 => (intro w hSw; (try dsimp only at hSw); go_simp; (try with_reducible rfl))
    (try simp only [Act.put, List.setIfInBounds_toArray, List.set_cons_zero, List.set_cons_succ])
    refine' tk_any 3 26 (v := _) ?hi94033 ?hd94033 (by kernel_rfl) (by kernel_rfl) (by kernel_rfl) (fun _ _ _ h => h) ?hy94033 hHeld ?hr94033
    case hi94033 => (simp only [List.getElem?_toArray, List.getElem?_cons_succ, List.getElem?_cons_zero]; rfl)
    case hd94033 => rfl
    case hy94033 =>
      refine' Or.inl ⟨?hw94033, ?hx94033⟩
      case hw94033 => rfl
      case hx94033 => (intro w hSw; (try dsimp only at hSw); go_simp; (try with_reducible rfl))
    (try simp only [Act.put, List.setIfInBounds_toArray, List.set_cons_zero, List.set_cons_succ])
    refine' tk_any 4 27 (v := _) ?hi94034 ?hd94034 (by kernel_rfl) (by kernel_rfl) (by kernel_rfl) (fun _ _ _ h => h) ?hy94034 hHeld ?hr94034
    case hi94034 => (simp only [List.getElem?_toArray, List.getElem?_cons_succ, List.getElem?_cons_zero]; rfl)
    case hd94034 => rfl
    case hy94034 =>
      refine' Or.inl ⟨?hw94034, ?hx94034⟩
      case hw94034 => rfl
      case hx94034 => (intro w hSw; (try dsimp only at hSw); go_simp; (try with_reducible rfl))
    (try simp only [Act.put, List.setIfInBounds_toArray, List.set_cons_zero, List.set_cons_succ])
    refine' tk_any 5 28 (v := _) ?hi94035 ?hd94035 (by kernel_rfl) (by kernel_rfl) (by kernel_rfl) (fun _ _ _ h => h) ?hy94035 hHeld ?hr94035
    case hi94035 => (simp only [List.getElem?_toArray, List.getElem?_cons_succ, List.getElem?_cons_zero]; rfl)
    case hd94035 => rfl
    case hy94035 =>
      refine' Or.inl ⟨?hw94035, ?hx94035⟩
      case hw94035 => rfl
      case hx94035 => (intro w hSw; (try dsimp only at hSw); go_simp; (try with_reducible rfl))
    (try simp only [Act.put, List.setIfInBounds_toArray, List.set_cons_zero, List.set_cons_succ])
    refine' tk_any 6 29 (v := _) ?hi94036 ?hd94036 (by kernel_rfl) (by kernel_rfl) (by kernel_rfl) (fun _ _ _ h => h) ?hy94036 hHeld ?hr94036
    case hi94036 => (simp only [List.getElem?_toArray, List.getElem?_cons_succ, List.getElem?_cons_zero]; rfl)
    case hd94036 => rfl
    case hy94036 =>
      refine' Or.inl ⟨?hw94036, ?hx94036⟩
      case hw94036 => rfl
      case hx94036 => (intro w hSw; (try dsimp only at hSw); go_simp; (try with_reducible rfl))
    (try simp only [Act.put, List.setIfInBounds_toArray, List.set_cons_zero, List.set_cons_succ])
    refine' tk_any 7 30 (v := _) ?hi94037 ?hd94037 (by kernel_rfl) (by kernel_rfl) (by kernel_rfl) (fun _ _ _ h => h) ?hy94037 hHeld ?hr94037
    case hi94037 => (simp only [List.getElem?_toArray, List.getElem?_cons_succ, List.getElem?_cons_zero]; rfl)
    case hd94037 => rfl
    case hy94037 =>
      refine' Or.inl ⟨?hw94037, ?hx94037⟩
      case hw94037 => rfl
      case hx94037 => (intro w hSw; (try dsimp only at hSw); go_simp; (try with_reducible rfl))
    (try simp only [Act.put, List.setIfInBounds_toArray, List.set_cons_zero, List.set_cons_succ])
    refine' tk_call 8 ?hi94038 (by kernel_rfl) ?hr94038
    case hi94038 => (simp only [List.getElem?_toArray, List.getElem?_cons_succ, List.getElem?_cons_zero]; rfl)
    intro K hK
    go_simp
    go_at_call 93
    refine (HCPC.out wd HWE.out HPE.out).mono ?_
    rintro e2 w2 ⟨⟨v, rfl, hv⟩, hs2, hk2⟩
    have HV := Lib.hid hv
    have HS2 := Lib.hid (HSE.out.trans hs2)
    have HK2 := Lib.hid hk2
    have HX2 := Lib.hid (HXE.out.stay hs2 (by have := HCW.out; omega))
    clear hv hs2 hk2
    go_wp2_with fail
    clear hHeld
    refine hK.out _ _ (by (try dsimp only); exact ⟨HX2.out.c9, HX2.out.c10, HX2.out.c11⟩) (fun hHeld => ?_)
    clear hK K
    (try simp only [Act.put, List.setIfInBounds_toArray, List.set_cons_zero, List.set_cons_succ])
    refine' tk_any 9 8 (v := _) ?hi94039 ?hd94039 (by kernel_rfl) (by kernel_rfl) (by kernel_rfl) (fun _ _ _ h => h) ?hy94039 hHeld ?hr94039
    case hi94039 => (simp only [List.getElem?_toArray, List.getElem?_cons_succ, List.getElem?_cons_zero]; rfl)
    case hd94039 => rfl
    case hy94039 =>
      refine' Or.inl ⟨?hw94039, ?hx94039⟩
      case hw94039 => rfl
      case hx94039 => (intro w hSw; (try dsimp only at hSw); go_simp; (try with_reducible rfl))
    (try simp only [Act.put, List.setIfInBounds_toArray, List.set_cons_zero, List.set_cons_succ])
    refine' tk_any 10 9 (v := _) ?hi94040 ?hd94040 (by kernel_rfl) (by kernel_rfl) (by kernel_rfl) (fun _ _ _ h => h) ?hy94040 hHeld ?hr94040
    case hi94040 => (simp only [List.getElem?_toArray, List.getElem?_cons_succ, List.getElem?_cons_zero]; rfl)
    case hd94040 => rfl
    case hy94040 =>
      refine' Or.inl ⟨?hw94040, ?hx94040⟩
      case hw94040 => rfl
      case hx94040 => (intro w hSw; (try dsimp only at hSw); go_simp; (try with_reducible rfl))
    (try simp only [Act.put, List.setIfInBounds_toArray, List.set_cons_zero, List.set_cons_succ])
    refine' tk_any 11 10 (v := _) ?hi94041 ?hd94041 (by kernel_rfl) (by kernel_rfl) (by kernel_rfl) (fun _ _ _ h => h) ?hy94041 hHeld ?hr94041
    case hi94041 => (simp only [List.getElem?_toArray, List.getElem?_cons_succ, List.getElem?_cons_zero]; rfl)
    case hd94041 => rfl
    case hy94041 =>
      refine' Or.inl ⟨?hw94041, ?hx94041⟩
      case hw94041 => rfl
      case hx94041 => (intro w hSw; (try dsimp only at hSw); go_simp; (try with_reducible rfl))
    (try simp only [Act.put, List.setIfInBounds_toArray, List.set_cons_zero, List.set_cons_succ])
    refine wpAnyH_done (by kernel_rfl) ?_ _
    refine NoPanic.normal ?_
    go_wp2
    refine bodyPost_ret (v := .tuple #[.int .i64 c.h.fn, .int .i64 c.h.fl, v]) ?_ ?_ ?_
    · simp [results, Tryd.results89, go_sem]
    · rfl
    · refine ⟨⟨v, ?_, ?_⟩, HS2.out, HK2.out⟩
      · rw [HPX.out]
      · rw [HPX.out]; exact CoSN.mono HV.out fun b _ h => Nat.lt_of_lt_of_le h (Nat.le_trans HB.out.size HDZ.out)
  have b2 : (d.h.fn == 0) = false := beq_false_of_ne a2
  have HN1 := Lib.hid (show ¬ (c.h.fn = 1 ∨ d.h.fn = 0) from fun h => h.elim a1 a2)
  by_cases a3 : d.h.fn = 1
  · have b3 : (d.h.fn == 1) = true := by rw [a3]; rfl
    have HCOND := Lib.hid (show d.h.fn = 1 ∨ c.h.fn = 0 from .inl a3)
    clear a1 a2 a3
    have HPX := Lib.hid (show P = (d.h.fn, d.h.fl, d.funs) by rw [HP.out, if_neg HN1.out, if_pos HCOND.out])
    go_upto_region 4 with fail
    (try dsimp only [List.append])
    refine wp_region_noPanic ?_
    refine wp_region_held_drew (S := (fun w' => w'.cell? ⟨(w.heap.size + 1), 9, none⟩ = some (.int .i64 d.h.fn) ∧ w'.cell? ⟨(w.heap.size + 1), 10, none⟩ = some (.int .i64 d.h.fl) ∧ w'.cell? ⟨(w.heap.size + 1), 11, none⟩ = some (.slice ga mf gc))) (by kernel_rfl) (by (try dsimp only); exact ⟨(HXD.out.keep (Below.refl W.heap.size W).drew).c9, (HXD.out.keep (Below.refl W.heap.size W).drew).c10, (HXD.out.keep (Below.refl W.heap.size W).drew).c11⟩) (fun hHeld => ?_)
    have hdr : Below W.heap.size W W.drew := (Below.refl _ _).drew
    have HXE := Lib.hid (HXD.out.keep hdr)
    have HSE := Lib.hid (HS.out.then hdr)
    have HWE := Lib.hid (HWK.out.keep hdr)
    have HPE := Lib.hid (CoSN.below HDF.out hdr)
    have HDZ := Lib.hid hdr.size
    clear hdr
    generalize W.drew = wd at hHeld HXE HSE HWE HPE HDZ ⊢
    refine' tk_any 0 41 (v := _) ?hi94042 ?hd94042 (by kernel_rfl) (by kernel_rfl) (by kernel_rfl) (fun _ _ _ h => h) ?hy94042 hHeld ?hr94042
    case hi94042 => (simp only [List.getElem?_toArray, List.getElem?_cons_zero]; rfl)
    case hd94042 => rfl
    case hy94042 =>
      refine' Or.inl ⟨?hw94042, ?hx94042⟩
      case hw94042 => rfl
      case hx94042 => (intro w hSw; (try dsimp only at hSw); go_simp; (try with_reducible rfl))
    (try simp only [Act.put, List.setIfInBounds_toArray, List.set_cons_zero, List.set_cons_succ])
    refine' tk_any 1 42 (v := _) ?hi94043 ?hd94043 (by kernel_rfl) (by kernel_rfl) (by kernel_rfl) (fun _ _ _ h => h) ?hy94043 hHeld ?hr94043
    case hi94043 => (simp only [List.getElem?_toArray, List.getElem?_cons_succ, List.getElem?_cons_zero]; rfl)
    case hd94043 => rfl
    case hy94043 =>
      refine' Or.inl ⟨?hw94043, ?hx94043⟩
      case hw94043 => rfl
      case hx94043 => (intro w hSw; (try dsimp only at hSw); go_simp; (try with_reducible rfl))
    (try simp only [Act.put, List.setIfInBounds_toArray, List.set_cons_zero, List.set_cons_succ])
    refine' tk_any 2 43 (v := _) ?hi94044 ?hd94044 (by kernel_rfl) (by kernel_rfl) (by kernel_rfl) (fun _ _ _ h => h) ?hy94044 hHeld ?hr94044
    case hi94044 => (simp only [List.getElem?_toArray, List.getElem?_cons_succ, List.getElem?_cons_zero]; rfl)
    case hd94044 => rfl
    case hy94044 =>
      refine' Or.inl ⟨?hw94044, ?hx94044⟩
      case hw94044 => rfl
      case hx94044 => (intro w hSw; (try dsimp only at hSw); go_simp; (try with_reducible rfl))
    (try simp only [Act.put, List.setIfInBounds_toArray, List.set_cons_zero, List.set_cons_succ])
    refine' tk_any 3 44 (v := _) ?hi94045 ?hd94045 (by kernel_rfl) (by kernel_rfl) (by kernel_rfl) (fun _ _ _ h => h) ?hy94045 hHeld ?hr94045
    case hi94045 => (simp only [List.getElem?_toArray, List.getElem?_cons_succ, List.getElem?_cons_zero]; rfl)
    case hd94045 => rfl
    case hy94045 =>
      refine' Or.inl ⟨?hw94045, ?hx94045⟩
      case hw94045 => rfl
      case hx94045 => (intro w hSw; (try dsimp only at hSw); go_simp; (try with_reducible rfl))
    (try simp only [Act.put, List.setIfInBounds_toArray, List.set_cons_zero, List.set_cons_succ])
    refine' tk_any 4 45 (v := _) ?hi94046 ?hd94046 (by kernel_rfl) (by kernel_rfl) (by kernel_rfl) (fun _ _ _ h => h) ?hy94046 hHeld ?hr94046
    case hi94046 => (simp only [List.getElem?_toArray, List.getElem?_cons_succ, List.getElem?_cons_zero]; rfl)
    case hd94046 => rfl
    case hy94046 =>
      refine' Or.inl ⟨?hw94046, ?hx94046⟩
      case hw94046 => rfl
      case hx94046 => (intro w hSw; (try dsimp only at hSw); go_simp; (try with_reducible rfl))
    (try simp only [Act.put, List.setIfInBounds_toArray, List.set_cons_zero, List.set_cons_succ])
    refine' tk_any 5 46 (v := _) ?hi94047 ?hd94047 (by kernel_rfl) (by kernel_rfl) (by kernel_rfl) (fun _ _ _ h => h) ?hy94047 hHeld ?hr94047
    case hi94047 => (simp only [List.getElem?_toArray, List.getElem?_cons_succ, List.getElem?_cons_zero]; rfl)
    case hd94047 => rfl
    case hy94047 =>
      refine' Or.inl ⟨?hw94047, ?hx94047⟩
      case hw94047 => rfl
      case hx94047 => (intro w hSw; (try dsimp only at hSw); go_simp; (try with_reducible rfl))
    (try simp only [Act.put, List.setIfInBounds_toArray, List.set_cons_zero, List.set_cons_succ])
    refine' tk_any 6 47 (v := _) ?hi94048 ?hd94048 (by kernel_rfl) (by kernel_rfl) (by kernel_rfl) (fun _ _ _ h => h) ?hy94048 hHeld ?hr94048
    case hi94048 => (simp only [List.getElem?_toArray, List.getElem?_cons_succ, List.getElem?_cons_zero]; rfl)
    case hd94048 => rfl
    case hy94048 =>
      refine' Or.inl ⟨?hw94048, ?hx94048⟩
      case hw94048 => rfl
      case hx94048 => (intro w hSw; (try dsimp only at hSw); go_simp; (try with_reducible rfl))
    (try simp only [Act.put, List.setIfInBounds_toArray, List.set_cons_zero, List.set_cons_succ])
    refine' tk_any 7 48 (v := _) ?hi94049 ?hd94049 (by kernel_rfl) (by kernel_rfl) (by kernel_rfl) (fun _ _ _ h => h) ?hy94049 hHeld ?hr94049
    case hi94049 => (simp only [List.getElem?_toArray, List.getElem?_cons_succ, List.getElem?_cons_zero]; rfl)
    case hd94049 => rfl
    case hy94049 =>
      refine' Or.inl ⟨?hw94049, ?hx94049⟩
      case hw94049 => rfl
      case hx94049 => (intro w hSw; (try dsimp only at hSw); go_simp; (try with_reducible rfl))
    (try simp only [Act.put, List.setIfInBounds_toArray, List.set_cons_zero, List.set_cons_succ])
    refine' tk_call 8 ?hi94050 (by kernel_rfl) ?hr94050
    case hi94050 => (simp only [List.getElem?_toArray, List.getElem?_cons_succ, List.getElem?_cons_zero]; rfl)
    intro K hK
    go_simp
    go_at_call 93
    refine (HCPD.out wd HWE.out HPE.out).mono ?_
    rintro e2 w2 ⟨⟨v, rfl, hv⟩, hs2, hk2⟩
    have HV := Lib.hid hv
    have HS2 := Lib.hid (HSE.out.trans hs2)
    have HK2 := Lib.hid hk2
    have HX2 := Lib.hid (HXE.out.stay hs2 (by have := HCW.out; omega))
    clear hv hs2 hk2
    go_wp2_with fail
    clear hHeld
    refine hK.out _ _ (by (try dsimp only); exact ⟨HX2.out.c9, HX2.out.c10, HX2.out.c11⟩) (fun hHeld => ?_)
    clear hK K
    (try simp only [Act.put, List.setIfInBounds_toArray, List.set_cons_zero, List.set_cons_succ])
    refine' tk_any 9 8 (v := _) ?hi94051 ?hd94051 (by kernel_rfl) (by kernel_rfl) (by kernel_rfl) (fun _ _ _ h => h) ?hy94051 hHeld ?hr94051
    case hi94051 => (simp only [List.getElem?_toArray, List.getElem?_cons_succ, List.getElem?_cons_zero]; rfl)
    case hd94051 => rfl
    case hy94051 =>
      refine' Or.inl ⟨?hw94051, ?hx94051⟩
      case hw94051 => rfl
      case hx94051 => (intro w hSw; (try dsimp only at hSw); go_simp; (try with_reducible rfl))
    (try simp only [Act.put, List.setIfInBounds_toArray, List.set_cons_zero, List.set_cons_succ])
    refine' tk_any 10 9 (v := _) ?hi94052 ?hd94052 (by kernel_rfl) (by kernel_rfl) (by kernel_rfl) (fun _ _ _ h => h) ?hy94052 hHeld ?hr94052
    case hi94052 => (simp only [List.getElem?_toArray, List.getElem?_cons_succ, List.getElem?_cons_zero]; rfl)
    case hd94052 => rfl
    case hy94052 =>
      refine' Or.inl ⟨?hw94052, ?hx94052⟩
      case hw94052 => rfl
      case hx94052 => (intro w hSw; (try dsimp only at hSw); go_simp; (try with_reducible rfl))
    (try simp only [Act.put, List.setIfInBounds_toArray, List.set_cons_zero, List.set_cons_succ])
    refine' tk_any 11 10 (v := _) ?hi94053 ?hd94053 (by kernel_rfl) (by kernel_rfl) (by kernel_rfl) (fun _ _ _ h => h) ?hy94053 hHeld ?hr94053
    case hi94053 => (simp only [List.getElem?_toArray, List.getElem?_cons_succ, List.getElem?_cons_zero]; rfl)
    case hd94053 => rfl
    case hy94053 =>
      refine' Or.inl ⟨?hw94053, ?hx94053⟩
      case hw94053 => rfl
      case hx94053 => (intro w hSw; (try dsimp only at hSw); go_simp; (try with_reducible rfl))
    (try simp only [Act.put, List.setIfInBounds_toArray, List.set_cons_zero, List.set_cons_succ])
    refine wpAnyH_done (by kernel_rfl) ?_ _
    refine NoPanic.normal ?_
    go_wp2
    refine bodyPost_ret (v := .tuple #[.int .i64 d.h.fn, .int .i64 d.h.fl, v]) ?_ ?_ ?_
    · simp [results, Tryd.results89, go_sem]
    · rfl
    · refine ⟨⟨v, ?_, ?_⟩, HS2.out, HK2.out⟩
      · rw [HPX.out]
      · rw [HPX.out]; exact CoSN.mono HV.out fun b _ h => Nat.lt_of_lt_of_le h (Nat.le_trans HB.out.size HDZ.out)
  have b3 : (d.h.fn == 1) = false := beq_false_of_ne a3
  by_cases a4 : c.h.fn = 0
  · have b4 : (c.h.fn == 0) = true := by rw [a4]; rfl
    have HCOND := Lib.hid (show d.h.fn = 1 ∨ c.h.fn = 0 from .inr a4)
    clear a1 a2 a3 a4
    have HPX := Lib.hid (show P = (d.h.fn, d.h.fl, d.funs) by rw [HP.out, if_neg HN1.out, if_pos HCOND.out])
    go_upto_region 4 with fail
    (try dsimp only [List.append])
    refine wp_region_noPanic ?_
    refine wp_region_held_drew (S := (fun w' => w'.cell? ⟨(w.heap.size + 1), 9, none⟩ = some (.int .i64 d.h.fn) ∧ w'.cell? ⟨(w.heap.size + 1), 10, none⟩ = some (.int .i64 d.h.fl) ∧ w'.cell? ⟨(w.heap.size + 1), 11, none⟩ = some (.slice ga mf gc))) (by kernel_rfl) (by (try dsimp only); exact ⟨(HXD.out.keep (Below.refl W.heap.size W).drew).c9, (HXD.out.keep (Below.refl W.heap.size W).drew).c10, (HXD.out.keep (Below.refl W.heap.size W).drew).c11⟩) (fun hHeld => ?_)
    have hdr : Below W.heap.size W W.drew := (Below.refl _ _).drew
    have HXE := Lib.hid (HXD.out.keep hdr)
    have HSE := Lib.hid (HS.out.then hdr)
    have HWE := Lib.hid (HWK.out.keep hdr)
    have HPE := Lib.hid (CoSN.below HDF.out hdr)
    have HDZ := Lib.hid hdr.size
    clear hdr
    generalize W.drew = wd at hHeld HXE HSE HWE HPE HDZ ⊢
    refine' tk_any 0 41 (v := _) ?hi94054 ?hd94054 (by kernel_rfl) (by kernel_rfl) (by kernel_rfl) (fun _ _ _ h => h) ?hy94054 hHeld ?hr94054
    case hi94054 => (simp only [List.getElem?_toArray, List.getElem?_cons_zero]; rfl)
    case hd94054 => rfl
    case hy94054 =>
      refine' Or.inl ⟨?hw94054, ?hx94054⟩
      case hw94054 => rfl
      case hx94054 => (intro w hSw; (try dsimp only at hSw); go_simp; (try with_reducible rfl))
    (try simp only [Act.put, List.setIfInBounds_toArray, List.set_cons_zero, List.set_cons_succ])
    refine' tk_any 1 42 (v := _) ?hi94055 ?hd94055 (by kernel_rfl) (by kernel_rfl) (by kernel_rfl) (fun _ _ _ h => h) ?hy94055 hHeld ?hr94055
    case hi94055 => (simp only [List.getElem?_toArray, List.getElem?_cons_succ, List.getElem?_cons_zero]; rfl)
    case hd94055 => rfl
    case hy94055 =>
      refine' Or.inl ⟨?hw94055, ?hx94055⟩
      case hw94055 => rfl
      case hx94055 => (intro w hSw; (try dsimp only at hSw); go_simp; (try with_reducible rfl))
    (try simp only [Act.put, List.setIfInBounds_toArray, List.set_cons_zero, List.set_cons_succ])
    refine' tk_any 2 43 (v := _) ?hi94056 ?hd94056 (by kernel_rfl) (by kernel_rfl) (by kernel_rfl) (fun _ _ _ h => h) ?hy94056 hHeld ?hr94056
    case hi94056 => (simp only [List.getElem?_toArray, List.getElem?_cons_succ, List.getElem?_cons_zero]; rfl)
    case hd94056 => rfl
    case hy94056 =>
      refine' Or.inl ⟨?hw94056, ?hx94056⟩
      case hw94056 => rfl
      case hx94056 => (intro w hSw; (try dsimp only at hSw); go_simp; (try with_reducible rfl))
    (try simp only [Act.put, List.setIfInBounds_toArray, List.set_cons_zero, List.set_cons_succ])
    refine' tk_any 3 44 (v := _) ?hi94057 ?hd94057 (by kernel_rfl) (by kernel_rfl) (by kernel_rfl) (fun _ _ _ h => h) ?hy94057 hHeld ?hr94057
    case hi94057 => (simp only [List.getElem?_toArray, List.getElem?_cons_succ, List.getElem?_cons_zero]; rfl)
    case hd94057 => rfl
    case hy94057 =>
      refine' Or.inl ⟨?hw94057, ?hx94057⟩
      case hw94057 => rfl
      case hx94057 => (intro w hSw; (try dsimp only at hSw); go_simp; (try with_reducible rfl))
    (try simp only [Act.put, List.setIfInBounds_toArray, List.set_cons_zero, List.set_cons_succ])
    refine' tk_any 4 45 (v := _) ?hi94058 ?hd94058 (by kernel_rfl) (by kernel_rfl) (by kernel_rfl) (fun _ _ _ h => h) ?hy94058 hHeld ?hr94058
    case hi94058 => (simp only [List.getElem?_toArray, List.getElem?_cons_succ, List.getElem?_cons_zero]; rfl)
    case hd94058 => rfl
    case hy94058 =>
      refine' Or.inl ⟨?hw94058, ?hx94058⟩
      case hw94058 => rfl
      case hx94058 => (intro w hSw; (try dsimp only at hSw); go_simp; (try with_reducible rfl))
    (try simp only [Act.put, List.setIfInBounds_toArray, List.set_cons_zero, List.set_cons_succ])
    refine' tk_any 5 46 (v := _) ?hi94059 ?hd94059 (by kernel_rfl) (by kernel_rfl) (by kernel_rfl) (fun _ _ _ h => h) ?hy94059 hHeld ?hr94059
    case hi94059 => (simp only [List.getElem?_toArray, List.getElem?_cons_succ, List.getElem?_cons_zero]; rfl)
    case hd94059 => rfl
    case hy94059 =>
      refine' Or.inl ⟨?hw94059, ?hx94059⟩
      case hw94059 => rfl
      case hx94059 => (intro w hSw; (try dsimp only at hSw); go_simp; (try with_reducible rfl))
    (try simp only [Act.put, List.setIfInBounds_toArray, List.set_cons_zero, List.set_cons_succ])
    refine' tk_any 6 47 (v := _) ?hi94060 ?hd94060 (by kernel_rfl) (by kernel_rfl) (by kernel_rfl) (fun _ _ _ h => h) ?hy94060 hHeld ?hr94060
    case hi94060 => (simp only [List.getElem?_toArray, List.getElem?_cons_succ, List.getElem?_cons_zero]; rfl)
    case hd94060 => rfl
    case hy94060 =>
      refine' Or.inl ⟨?hw94060, ?hx94060⟩
      case hw94060 => rfl
      case hx94060 => (intro w hSw; (try dsimp only at hSw); go_simp; (try with_reducible rfl))
    (try simp only [Act.put, List.setIfInBounds_toArray, List.set_cons_zero, List.set_cons_succ])
    refine' tk_any 7 48 (v := _) ?hi94061 ?hd94061 (by kernel_rfl) (by kernel_rfl) (by kernel_rfl) (fun _ _ _ h => h) ?hy94061 hHeld ?hr94061
    case hi94061 => (simp only [List.getElem?_toArray, List.getElem?_cons_succ, List.getElem?_cons_zero]; rfl)
    case hd94061 => rfl
    case hy94061 =>
      refine' Or.inl ⟨?hw94061, ?hx94061⟩
      case hw94061 => rfl
      case hx94061 => (intro w hSw; (try dsimp only at hSw); go_simp; (try with_reducible rfl))
    (try simp only [Act.put, List.setIfInBounds_toArray, List.set_cons_zero, List.set_cons_succ])
    refine' tk_call 8 ?hi94062 (by kernel_rfl) ?hr94062
    case hi94062 => (simp only [List.getElem?_toArray, List.getElem?_cons_succ, List.getElem?_cons_zero]; rfl)
    intro K hK
    go_simp
    go_at_call 93
    refine (HCPD.out wd HWE.out HPE.out).mono ?_
    rintro e2 w2 ⟨⟨v, rfl, hv⟩, hs2, hk2⟩
    have HV := Lib.hid hv
    have HS2 := Lib.hid (HSE.out.trans hs2)
    have HK2 := Lib.hid hk2
    have HX2 := Lib.hid (HXE.out.stay hs2 (by have := HCW.out; omega))
    clear hv hs2 hk2
    go_wp2_with fail
    clear hHeld
    refine hK.out _ _ (by (try dsimp only); exact ⟨HX2.out.c9, HX2.out.c10, HX2.out.c11⟩) (fun hHeld => ?_)
    clear hK K
    (try simp only [Act.put, List.setIfInBounds_toArray, List.set_cons_zero, List.set_cons_succ])
    refine' tk_any 9 8 (v := _) ?hi94063 ?hd94063 (by kernel_rfl) (by kernel_rfl) (by kernel_rfl) (fun _ _ _ h => h) ?hy94063 hHeld ?hr94063
    case hi94063 => (simp only [List.getElem?_toArray, List.getElem?_cons_succ, List.getElem?_cons_zero]; rfl)
    case hd94063 => rfl
    case hy94063 =>
      refine' Or.inl ⟨?hw94063, ?hx94063⟩
      case hw94063 => rfl
      case hx94063 => (intro w hSw; (try dsimp only at hSw); go_simp; (try with_reducible rfl))
    (try simp only [Act.put, List.setIfInBounds_toArray, List.set_cons_zero, List.set_cons_succ])
    refine' tk_any 10 9 (v := _) ?hi94064 ?hd94064 (by kernel_rfl) (by kernel_rfl) (by kernel_rfl) (fun _ _ _ h => h) ?hy94064 hHeld ?hr94064
    case hi94064 => (simp only [List.getElem?_toArray, List.getElem?_cons_succ, List.getElem?_cons_zero]; rfl)
    case hd94064 => rfl
    case hy94064 =>
      refine' Or.inl ⟨?hw94064, ?hx94064⟩
      case hw94064 => rfl
      case hx94064 => (intro w hSw; (try dsimp only at hSw); go_simp; (try with_reducible rfl))
    (try simp only [Act.put, List.setIfInBounds_toArray, List.set_cons_zero, List.set_cons_succ])
    refine' tk_any 11 10 (v := _) ?hi94065 ?hd94065 (by kernel_rfl) (by kernel_rfl) (by kernel_rfl) (fun _ _ _ h => h) ?hy94065 hHeld ?hr94065
    case hi94065 => (simp only [List.getElem?_toArray, List.getElem?_cons_succ, List.getElem?_cons_zero]; rfl)
    case hd94065 => rfl
    case hy94065 =>
      refine' Or.inl ⟨?hw94065, ?hx94065⟩
      case hw94065 => rfl
      case hx94065 => (intro w hSw; (try dsimp only at hSw); go_simp; (try with_reducible rfl))
    (try simp only [Act.put, List.setIfInBounds_toArray, List.set_cons_zero, List.set_cons_succ])
    refine wpAnyH_done (by kernel_rfl) ?_ _
    refine NoPanic.normal ?_
    go_wp2
    refine bodyPost_ret (v := .tuple #[.int .i64 d.h.fn, .int .i64 d.h.fl, v]) ?_ ?_ ?_
    · simp [results, Tryd.results89, go_sem]
    · rfl
    · refine ⟨⟨v, ?_, ?_⟩, HS2.out, HK2.out⟩
      · rw [HPX.out]
      · rw [HPX.out]; exact CoSN.mono HV.out fun b _ h => Nat.lt_of_lt_of_le h (Nat.le_trans HB.out.size HDZ.out)
  have b4 : (c.h.fn == 0) = false := beq_false_of_ne a4
  have HN2 := Lib.hid (show ¬ (d.h.fn = 1 ∨ c.h.fn = 0) from fun h => h.elim a3 a4)
  have HTW := Lib.hid (show 2 ≤ c.h.fn ∧ 2 ≤ d.h.fn by have := HOC.out.2.1; have := HOD.out.2.1; omega)
  clear a1 a2 a3 a4
  by_cases a5 : c.h.fn = 3
  · have b5 : (c.h.fn == 3) = true := by rw [a5]; rfl
    have HCOND := Lib.hid (show c.h.fn = 3 ∨ d.h.fn = 3 ∨ c.funs.length ≠ d.funs.length from .inl a5)
    clear a5
    have HPX := Lib.hid (show P = (3, 0, []) by rw [HP.out, if_neg HN1.out, if_neg HN2.out, if_pos HCOND.out])
    go_wp2
    refine bodyPost_ret (v := .tuple #[.int .i64 3, .int .i64 0, .slice none 0 0]) ?_ ?_ ?_
    · simp [results, Tryd.results89, go_sem]
    · rfl
    · refine ⟨⟨_, by rw [HPX.out], ?_⟩, HS.out, k, Nat.le_add_right _ _, HWK.out⟩
      rw [HPX.out]; exact .mkNil _ _
  have b5 : (c.h.fn == 3) = false := beq_false_of_ne a5
  by_cases a6 : d.h.fn = 3
  · have b6 : (d.h.fn == 3) = true := by rw [a6]; rfl
    have HCOND := Lib.hid (show c.h.fn = 3 ∨ d.h.fn = 3 ∨ c.funs.length ≠ d.funs.length from .inr (.inl a6))
    clear a5 a6
    have HPX := Lib.hid (show P = (3, 0, []) by rw [HP.out, if_neg HN1.out, if_neg HN2.out, if_pos HCOND.out])
    go_wp2
    refine bodyPost_ret (v := .tuple #[.int .i64 3, .int .i64 0, .slice none 0 0]) ?_ ?_ ?_
    · simp [results, Tryd.results89, go_sem]
    · rfl
    · refine ⟨⟨_, by rw [HPX.out], ?_⟩, HS.out, k, Nat.le_add_right _ _, HWK.out⟩
      rw [HPX.out]; exact .mkNil _ _
  have b6 : (d.h.fn == 3) = false := beq_false_of_ne a6
  by_cases a7 : nf = mf
  case neg =>
    have b7 : ((nf : Int) != (mf : Int)) = true := by rw [bne_iff_ne]; omega
    have HCOND := Lib.hid (show c.h.fn = 3 ∨ d.h.fn = 3 ∨ c.funs.length ≠ d.funs.length from .inr (.inr (by rw [← HNF.out, ← HMF.out]; exact a7)))
    clear a5 a6 a7
    have HPX := Lib.hid (show P = (3, 0, []) by rw [HP.out, if_neg HN1.out, if_neg HN2.out, if_pos HCOND.out])
    go_wp2
    refine bodyPost_ret (v := .tuple #[.int .i64 3, .int .i64 0, .slice none 0 0]) ?_ ?_ ?_
    · simp [results, Tryd.results89, go_sem]
    · rfl
    · refine ⟨⟨_, by rw [HPX.out], ?_⟩, HS.out, k, Nat.le_add_right _ _, HWK.out⟩
      rw [HPX.out]; exact .mkNil _ _
  subst a7
  have b7 : ((nf : Int) != (nf : Int)) = false := by simp
  have HN3 := Lib.hid (show ¬ (c.h.fn = 3 ∨ d.h.fn = 3 ∨ c.funs.length ≠ d.funs.length) from fun h => h.elim a5 fun h => h.elim a6 fun h => h (by rw [← HNF.out, ← HMF.out]))
  have HPX := Lib.hid (show P = (2, 0, rowF n c d) by rw [HP.out, if_neg HN1.out, if_neg HN2.out, if_neg HN3.out])
  have hfl := HOC.out.2.2.2.2 (by have := HOC.out.2.1; have := HTW.out; omega)
  obtain ⟨m, hm⟩ : ∃ m, nf = m + 1 := ⟨nf - 1, by rw [HNF.out]; omega⟩
  have hm8 : m ≤ 8 := by rw [← HNF.out] at hfl; omega
  clear a5 a6 hfl
  have h00 : (0 : Int) ≤ (nf : Int) := by omega
  have hle : (nf : Int) ≤ 100 := by omega
  have hmk := mkco_any nf (by omega) W
  obtain ⟨wR, hwR⟩ : ∃ x, x = W.alloc (.cells (cosCells (List.replicate nf rawc0)).toArray 25) := ⟨_, rfl⟩
  rw [← hwR] at hmk
  have HROW := Lib.hid (show RowO W.heap.size W.heap.size nf wR (List.replicate nf co0) by rw [hwR]; exact RowO.made nf (by omega) W)
  have HBR := Lib.hid (show Below W.heap.size W wR by rw [hwR]; exact (Below.refl _ _).alloc (Nat.le_refl _) _)
  clear hwR
  obtain ⟨g, hg⟩ : ∃ g, g = W.heap.size := ⟨_, rfl⟩
  rw [← hg] at hmk
  have HGE := Lib.hid hg
  have HM := Lib.hid hm
  have HM8 := Lib.hid hm8
  clear hg hm hm8
  have HS0 := HS
  go_wp2
  go_loopw [11, 74] (fun _ i wr => ∃ j : Nat, j ≤ nf ∧ i = .int .i64 j ∧ Hid (∃ L, RowO g W.heap.size nf wr L ∧ ∀ i, i < j → L.getD i co0 = partF n c d m i) ∧ Hid (Stay (· = cw) W wr) ∧ Hid (∃ k1, k1 ≤ k + sumF c d j ∧ WalkC M cw k1 wr)) (fun _ i _ => nf - (intOf i).toNat)
  case atStart => exact ⟨0, Nat.zero_le _, rfl, Lib.hid ⟨_, by rw [HGE.out]; exact HROW.out, fun j hj => absurd hj (Nat.not_lt_zero _)⟩, Lib.hid (.of HBR.out), Lib.hid ⟨k, Nat.le_add_right _ _, HWK.out.keep HBR.out⟩⟩
  case round =>
    obtain ⟨j, hj, rfl, HA, HBL, HT⟩ := hrel
    clear x0 y0 x1 y1 x2 y2 x3 y3 x4 y4 x5 y5 x6 y6 x7 y7 x8 y8 x9 y9 x10 y10 x11 y11
    by_cases hgo : j < nf
    · have hkc : j < c.funs.length := by rw [← HNF.out]; exact hgo
      have hkd : j < d.funs.length := by rw [← HMF.out]; exact hgo
      obtain ⟨cx, hcx⟩ : ∃ x, c.funs.getD j co0 = x := ⟨_, rfl⟩
      obtain ⟨dx, hdx⟩ : ∃ x, d.funs.getD j co0 = x := ⟨_, rfl⟩
      obtain ⟨bc, oc, p1, p2, p3, p4, rfl, hbc, ⟨e0, e1, e2, e3, e4, e5, e6, e7, e8, e9, e10, e11⟩, hvc⟩ := CoSN.elem (CoSN.stay HCF.out HBL.out) hkc hcx
      obtain ⟨bd, od, q1, q2, q3, q4, rfl, hbd, ⟨u0, u1, u2, u3, u4, u5, u6, u7, u8, u9, u10, u11⟩, hvd⟩ := CoSN.elem (CoSN.stay HDF.out HBL.out) hkd hdx
      obtain ⟨n1, hn1⟩ : ∃ q, q = cx.pairs.length := ⟨_, rfl⟩
      obtain ⟨n2, hn2⟩ : ∃ q, q = cx.funs.length := ⟨_, rfl⟩
      obtain ⟨n3, hn3⟩ : ∃ q, q = dx.pairs.length := ⟨_, rfl⟩
      obtain ⟨n4, hn4⟩ : ∃ q, q = dx.funs.length := ⟨_, rfl⟩
      rw [← hn1] at e8 hvc
      rw [← hn2] at e11 hvc
      rw [← hn3] at u8 hvd
      rw [← hn4] at u11 hvd
      have x11 : wr.cell? ⟨w.heap.size, 11, none⟩ = some (.slice (some ⟨bc, oc, none⟩) nf fc) := (HXC.out.stay HBL.out (by have := HCW.out; have := HB.out.size; omega)).c11
      have y11 : wr.cell? ⟨(w.heap.size + 1), 11, none⟩ = some (.slice (some ⟨bd, od, none⟩) nf gc) := (HXD.out.stay HBL.out (by have := HCW.out; have := HB.out.size; omega)).c11
      have hsz0 : w.heap.size + 1 < wr.heap.size := by have := HSZ.out; have := HBL.out.size; omega
      have HKE := Lib.hid (show ∀ wx, Below wr.heap.size wr wx → (fun w' => w'.cell? ⟨w.heap.size, 11, none⟩ = some (.slice (some ⟨bc, oc, none⟩) nf fc) ∧ w'.cell? ⟨(w.heap.size + 1), 11, none⟩ = some (.slice (some ⟨bd, od, none⟩) nf gc) ∧ w'.cell? ⟨bc, oc + j * 12, none⟩ = some (.int .i64 cx.h.f0) ∧ w'.cell? ⟨bc, oc + j * 12 + 1, none⟩ = some (.int .i64 cx.h.f1) ∧ w'.cell? ⟨bc, oc + j * 12 + 2, none⟩ = some (.int .i64 cx.h.f2) ∧ w'.cell? ⟨bc, oc + j * 12 + 3, none⟩ = some (.int .i64 cx.h.f3) ∧ w'.cell? ⟨bc, oc + j * 12 + 4, none⟩ = some (.int .i64 cx.h.f4) ∧ w'.cell? ⟨bc, oc + j * 12 + 5, none⟩ = some (.int .i64 cx.h.f5) ∧ w'.cell? ⟨bc, oc + j * 12 + 6, none⟩ = some (.int .i64 cx.h.pair) ∧ w'.cell? ⟨bc, oc + j * 12 + 7, none⟩ = some (.int .i64 cx.h.pl) ∧ w'.cell? ⟨bc, oc + j * 12 + 8, none⟩ = some (.slice p1 n1 p2) ∧ w'.cell? ⟨bc, oc + j * 12 + 9, none⟩ = some (.int .i64 cx.h.fn) ∧ w'.cell? ⟨bc, oc + j * 12 + 10, none⟩ = some (.int .i64 cx.h.fl) ∧ w'.cell? ⟨bc, oc + j * 12 + 11, none⟩ = some (.slice p3 n2 p4) ∧ w'.cell? ⟨bd, od + j * 12, none⟩ = some (.int .i64 dx.h.f0) ∧ w'.cell? ⟨bd, od + j * 12 + 1, none⟩ = some (.int .i64 dx.h.f1) ∧ w'.cell? ⟨bd, od + j * 12 + 2, none⟩ = some (.int .i64 dx.h.f2) ∧ w'.cell? ⟨bd, od + j * 12 + 3, none⟩ = some (.int .i64 dx.h.f3) ∧ w'.cell? ⟨bd, od + j * 12 + 4, none⟩ = some (.int .i64 dx.h.f4) ∧ w'.cell? ⟨bd, od + j * 12 + 5, none⟩ = some (.int .i64 dx.h.f5) ∧ w'.cell? ⟨bd, od + j * 12 + 6, none⟩ = some (.int .i64 dx.h.pair) ∧ w'.cell? ⟨bd, od + j * 12 + 7, none⟩ = some (.int .i64 dx.h.pl) ∧ w'.cell? ⟨bd, od + j * 12 + 8, none⟩ = some (.slice q1 n3 q2) ∧ w'.cell? ⟨bd, od + j * 12 + 9, none⟩ = some (.int .i64 dx.h.fn) ∧ w'.cell? ⟨bd, od + j * 12 + 10, none⟩ = some (.int .i64 dx.h.fl) ∧ w'.cell? ⟨bd, od + j * 12 + 11, none⟩ = some (.slice q3 n4 q4)) wx from fun wx hs => ⟨(hs.cell (p := ⟨w.heap.size, 11, none⟩) (by show w.heap.size < _; omega)).trans x11, (hs.cell (p := ⟨w.heap.size + 1, 11, none⟩) hsz0).trans y11, (hs.cell (p := ⟨bc, oc + j * 12, none⟩) hbc).trans e0, (hs.cell (p := ⟨bc, oc + j * 12 + 1, none⟩) hbc).trans e1, (hs.cell (p := ⟨bc, oc + j * 12 + 2, none⟩) hbc).trans e2, (hs.cell (p := ⟨bc, oc + j * 12 + 3, none⟩) hbc).trans e3, (hs.cell (p := ⟨bc, oc + j * 12 + 4, none⟩) hbc).trans e4, (hs.cell (p := ⟨bc, oc + j * 12 + 5, none⟩) hbc).trans e5, (hs.cell (p := ⟨bc, oc + j * 12 + 6, none⟩) hbc).trans e6, (hs.cell (p := ⟨bc, oc + j * 12 + 7, none⟩) hbc).trans e7, (hs.cell (p := ⟨bc, oc + j * 12 + 8, none⟩) hbc).trans e8, (hs.cell (p := ⟨bc, oc + j * 12 + 9, none⟩) hbc).trans e9, (hs.cell (p := ⟨bc, oc + j * 12 + 10, none⟩) hbc).trans e10, (hs.cell (p := ⟨bc, oc + j * 12 + 11, none⟩) hbc).trans e11, (hs.cell (p := ⟨bd, od + j * 12, none⟩) hbd).trans u0, (hs.cell (p := ⟨bd, od + j * 12 + 1, none⟩) hbd).trans u1, (hs.cell (p := ⟨bd, od + j * 12 + 2, none⟩) hbd).trans u2, (hs.cell (p := ⟨bd, od + j * 12 + 3, none⟩) hbd).trans u3, (hs.cell (p := ⟨bd, od + j * 12 + 4, none⟩) hbd).trans u4, (hs.cell (p := ⟨bd, od + j * 12 + 5, none⟩) hbd).trans u5, (hs.cell (p := ⟨bd, od + j * 12 + 6, none⟩) hbd).trans u6, (hs.cell (p := ⟨bd, od + j * 12 + 7, none⟩) hbd).trans u7, (hs.cell (p := ⟨bd, od + j * 12 + 8, none⟩) hbd).trans u8, (hs.cell (p := ⟨bd, od + j * 12 + 9, none⟩) hbd).trans u9, (hs.cell (p := ⟨bd, od + j * 12 + 10, none⟩) hbd).trans u10, (hs.cell (p := ⟨bd, od + j * 12 + 11, none⟩) hbd).trans u11⟩)
      have HVC := Lib.hid hvc
      have HVD := Lib.hid hvd
      have HCX := Lib.hid hcx
      have HDX := Lib.hid hdx
      have HKL := Lib.hid hgo
      have hlt : (j : Int) < nf := by omega
      have hj0 : (0 : Int) ≤ (j : Int) := by omega
      clear hvc hvd hcx hdx hn1 hn2 hn3 hn4 hkc hkd hj hgo hsz0
      go_upto_region 11 with fail
      go_cut [12, 13] from 77 to 86 (fun p q wx => ∃ g12 g13 : Nat, p = .pointer (some ⟨g12, 0, none⟩) ∧ q = .pointer (some ⟨g13, 0, none⟩) ∧ Hid (CBox wx g12 25 ⟨dx.h, .slice q1 n3 q2, .slice q3 n4 q4⟩) ∧ Hid (CBox wx g13 25 ⟨cx.h, .slice p1 n1 p2, .slice p3 n2 p4⟩) ∧ Hid (g12 ≠ g13 ∧ wr.heap.size ≤ g12 ∧ wr.heap.size ≤ g13) ∧ Hid (Below wr.heap.size wr wx))
      case first =>
        (try dsimp only [List.append])
        refine wp_region_noPanic ?_
        refine wp_region_held_drew (S := (fun w' => w'.cell? ⟨w.heap.size, 11, none⟩ = some (.slice (some ⟨bc, oc, none⟩) nf fc) ∧ w'.cell? ⟨(w.heap.size + 1), 11, none⟩ = some (.slice (some ⟨bd, od, none⟩) nf gc) ∧ w'.cell? ⟨bc, oc + j * 12, none⟩ = some (.int .i64 cx.h.f0) ∧ w'.cell? ⟨bc, oc + j * 12 + 1, none⟩ = some (.int .i64 cx.h.f1) ∧ w'.cell? ⟨bc, oc + j * 12 + 2, none⟩ = some (.int .i64 cx.h.f2) ∧ w'.cell? ⟨bc, oc + j * 12 + 3, none⟩ = some (.int .i64 cx.h.f3) ∧ w'.cell? ⟨bc, oc + j * 12 + 4, none⟩ = some (.int .i64 cx.h.f4) ∧ w'.cell? ⟨bc, oc + j * 12 + 5, none⟩ = some (.int .i64 cx.h.f5) ∧ w'.cell? ⟨bc, oc + j * 12 + 6, none⟩ = some (.int .i64 cx.h.pair) ∧ w'.cell? ⟨bc, oc + j * 12 + 7, none⟩ = some (.int .i64 cx.h.pl) ∧ w'.cell? ⟨bc, oc + j * 12 + 8, none⟩ = some (.slice p1 n1 p2) ∧ w'.cell? ⟨bc, oc + j * 12 + 9, none⟩ = some (.int .i64 cx.h.fn) ∧ w'.cell? ⟨bc, oc + j * 12 + 10, none⟩ = some (.int .i64 cx.h.fl) ∧ w'.cell? ⟨bc, oc + j * 12 + 11, none⟩ = some (.slice p3 n2 p4) ∧ w'.cell? ⟨bd, od + j * 12, none⟩ = some (.int .i64 dx.h.f0) ∧ w'.cell? ⟨bd, od + j * 12 + 1, none⟩ = some (.int .i64 dx.h.f1) ∧ w'.cell? ⟨bd, od + j * 12 + 2, none⟩ = some (.int .i64 dx.h.f2) ∧ w'.cell? ⟨bd, od + j * 12 + 3, none⟩ = some (.int .i64 dx.h.f3) ∧ w'.cell? ⟨bd, od + j * 12 + 4, none⟩ = some (.int .i64 dx.h.f4) ∧ w'.cell? ⟨bd, od + j * 12 + 5, none⟩ = some (.int .i64 dx.h.f5) ∧ w'.cell? ⟨bd, od + j * 12 + 6, none⟩ = some (.int .i64 dx.h.pair) ∧ w'.cell? ⟨bd, od + j * 12 + 7, none⟩ = some (.int .i64 dx.h.pl) ∧ w'.cell? ⟨bd, od + j * 12 + 8, none⟩ = some (.slice q1 n3 q2) ∧ w'.cell? ⟨bd, od + j * 12 + 9, none⟩ = some (.int .i64 dx.h.fn) ∧ w'.cell? ⟨bd, od + j * 12 + 10, none⟩ = some (.int .i64 dx.h.fl) ∧ w'.cell? ⟨bd, od + j * 12 + 11, none⟩ = some (.slice q3 n4 q4))) (by kernel_rfl) (by (try dsimp only); exact HKE.out _ (Below.refl wr.heap.size wr).drew) (fun hHeld => ?_)
        have HBD := Lib.hid ((Below.refl wr.heap.size wr).drew)
        generalize wr.drew = wd at hHeld HBD ⊢
        refine' tk_any 0 77 (v := _) ?hi94001 ?hd94001 (by kernel_rfl) (by kernel_rfl) (by kernel_rfl) (fun _ _ _ h => h) ?hy94001 hHeld ?hr94001
        case hi94001 => (simp only [List.getElem?_toArray, List.getElem?_cons_zero]; rfl)
        case hd94001 => rfl
        case hy94001 =>
          refine' Or.inl ⟨?hw94001, ?hx94001⟩
          case hw94001 => rfl
          case hx94001 => (intro w hSw; (try dsimp only at hSw); go_simp; (try with_reducible rfl))
        (try simp only [Act.put, List.setIfInBounds_toArray, List.set_cons_zero, List.set_cons_succ])
        refine' tk_any 1 78 (v := _) ?hi94002 ?hd94002 (by kernel_rfl) (by kernel_rfl) (by kernel_rfl) (fun _ _ _ h => h) ?hy94002 hHeld ?hr94002
        case hi94002 => (simp only [List.getElem?_toArray, List.getElem?_cons_succ, List.getElem?_cons_zero]; rfl)
        case hd94002 => rfl
        case hy94002 =>
          refine' Or.inl ⟨?hw94002, ?hx94002⟩
          case hw94002 => rfl
          case hx94002 => (intro w hSw; (try dsimp only at hSw); go_simp; (try with_reducible rfl))
        (try simp only [Act.put, List.setIfInBounds_toArray, List.set_cons_zero, List.set_cons_succ])
        refine' tk_any 2 79 (v := _) ?hi94003 ?hd94003 (by kernel_rfl) (by kernel_rfl) (by kernel_rfl) (fun _ _ _ h => h) ?hy94003 hHeld ?hr94003
        case hi94003 => (simp only [List.getElem?_toArray, List.getElem?_cons_succ, List.getElem?_cons_zero]; rfl)
        case hd94003 => rfl
        case hy94003 =>
          refine' Or.inl ⟨?hw94003, ?hx94003⟩
          case hw94003 => rfl
          case hx94003 => (intro w hSw; (try dsimp only at hSw); go_simp; (try with_reducible rfl))
        (try simp only [Act.put, List.setIfInBounds_toArray, List.set_cons_zero, List.set_cons_succ])
        refine' tk_any 3 80 (v := _) ?hi94004 ?hd94004 (by kernel_rfl) (by kernel_rfl) (by kernel_rfl) (fun _ _ _ h => h) ?hy94004 hHeld ?hr94004
        case hi94004 => (simp only [List.getElem?_toArray, List.getElem?_cons_succ, List.getElem?_cons_zero]; rfl)
        case hd94004 => rfl
        case hy94004 =>
          refine' Or.inl ⟨?hw94004, ?hx94004⟩
          case hw94004 => rfl
          case hx94004 => (intro w hSw; (try dsimp only at hSw); go_simp; (try with_reducible rfl))
        (try simp only [Act.put, List.setIfInBounds_toArray, List.set_cons_zero, List.set_cons_succ])
        refine' tk_any 4 81 (v := _) ?hi94005 ?hd94005 (by kernel_rfl) (by kernel_rfl) (by kernel_rfl) (fun _ _ _ h => h) ?hy94005 hHeld ?hr94005
        case hi94005 => (simp only [List.getElem?_toArray, List.getElem?_cons_succ, List.getElem?_cons_zero]; rfl)
        case hd94005 => rfl
        case hy94005 =>
          refine' Or.inl ⟨?hw94005, ?hx94005⟩
          case hw94005 => rfl
          case hx94005 => (intro w hSw; (try dsimp only at hSw); go_simp; (try with_reducible rfl))
        (try simp only [Act.put, List.setIfInBounds_toArray, List.set_cons_zero, List.set_cons_succ])
        refine' tk_any 5 82 (v := _) ?hi94006 ?hd94006 (by kernel_rfl) (by kernel_rfl) (by kernel_rfl) (fun _ _ _ h => h) ?hy94006 hHeld ?hr94006
        case hi94006 => (simp only [List.getElem?_toArray, List.getElem?_cons_succ, List.getElem?_cons_zero]; rfl)
        case hd94006 => rfl
        case hy94006 =>
          refine' Or.inl ⟨?hw94006, ?hx94006⟩
          case hw94006 => rfl
          case hx94006 => (intro w hSw; (try dsimp only at hSw); go_simp; (try with_reducible rfl))
        (try simp only [Act.put, List.setIfInBounds_toArray, List.set_cons_zero, List.set_cons_succ])
        refine' tk_any 6 83 (v := _) ?hi94007 ?hd94007 (by kernel_rfl) (by kernel_rfl) (by kernel_rfl) (fun _ _ _ h => h) ?hy94007 hHeld ?hr94007
        case hi94007 => (simp only [List.getElem?_toArray, List.getElem?_cons_succ, List.getElem?_cons_zero]; rfl)
        case hd94007 => rfl
        case hy94007 =>
          refine' Or.inl ⟨?hw94007, ?hx94007⟩
          case hw94007 => rfl
          case hx94007 => (intro w hSw; (try dsimp only at hSw); go_simp; (try with_reducible rfl))
        (try simp only [Act.put, List.setIfInBounds_toArray, List.set_cons_zero, List.set_cons_succ])
        refine' tk_any 7 84 (v := _) ?hi94008 ?hd94008 (by kernel_rfl) (by kernel_rfl) (by kernel_rfl) (fun _ _ _ h => h) ?hy94008 hHeld ?hr94008
        case hi94008 => (simp only [List.getElem?_toArray, List.getElem?_cons_succ, List.getElem?_cons_zero]; rfl)
        case hd94008 => rfl
        case hy94008 =>
          refine' Or.inl ⟨?hw94008, ?hx94008⟩
          case hw94008 => rfl
          case hx94008 => (intro w hSw; (try dsimp only at hSw); go_simp; (try with_reducible rfl))
        (try simp only [Act.put, List.setIfInBounds_toArray, List.set_cons_zero, List.set_cons_succ])
        refine' tk_any 8 85 (v := _) ?hi94009 ?hd94009 (by kernel_rfl) (by kernel_rfl) (by kernel_rfl) (fun _ _ _ h => h) ?hy94009 hHeld ?hr94009
        case hi94009 => (simp only [List.getElem?_toArray, List.getElem?_cons_succ, List.getElem?_cons_zero]; rfl)
        case hd94009 => rfl
        case hy94009 =>
          refine' Or.inl ⟨?hw94009, ?hx94009⟩
          case hw94009 => rfl
          case hx94009 => (intro w hSw; (try dsimp only at hSw); go_simp; (try with_reducible rfl))
        (try simp only [Act.put, List.setIfInBounds_toArray, List.set_cons_zero, List.set_cons_succ])
        refine' tk_any 9 86 (v := _) ?hi94010 ?hd94010 (by kernel_rfl) (by kernel_rfl) (by kernel_rfl) (fun _ _ _ h => h) ?hy94010 hHeld ?hr94010
        case hi94010 => (simp only [List.getElem?_toArray, List.getElem?_cons_succ, List.getElem?_cons_zero]; rfl)
        case hd94010 => rfl
        case hy94010 =>
          refine' Or.inl ⟨?hw94010, ?hx94010⟩
          case hw94010 => rfl
          case hx94010 => (intro w hSw; (try dsimp only at hSw); go_simp; (try with_reducible rfl))
        (try simp only [Act.put, List.setIfInBounds_toArray, List.set_cons_zero, List.set_cons_succ])
        refine' tk_two 10 11 ?hi94017 ?hj94017 (by kernel_rfl) ?ha94017 ?hb94017
        case hi94017 => (simp only [List.getElem?_toArray, List.getElem?_cons_succ, List.getElem?_cons_zero]; rfl)
        case hj94017 => (simp only [List.getElem?_toArray, List.getElem?_cons_succ, List.getElem?_cons_zero]; rfl)
        case ha94017 =>
          intro K hK
          go_simp
          obtain ⟨wA, hwA⟩ : ∃ x : World, x = wd.alloc (.cells #[.int .i64 0, .int .i64 0, .int .i64 0, .int .i64 0, .int .i64 0, .int .i64 0, .int .i64 0, .int .i64 0, .slice none 0 0, .int .i64 0, .int .i64 0, .slice none 0 0] 25) := ⟨_, rfl⟩
          rw [← hwA]
          have hb : Below wd.heap.size wd wA := by rw [hwA]; exact (Below.refl _ _).alloc (Nat.le_refl _) _
          obtain ⟨g12, hgn⟩ : ∃ x, x = wd.heap.size := ⟨_, rfl⟩
          rw [← hgn]
          have Hg12 := Lib.hid (show CBox wA g12 25 ⟨⟨0, 0, 0, 0, 0, 0, 0, 0, 0, 0⟩, .slice none 0 0, .slice none 0 0⟩ by rw [hwA, hgn]; exact CBox.made wd 25 ⟨⟨0, 0, 0, 0, 0, 0, 0, 0, 0, 0⟩, .slice none 0 0, .slice none 0 0⟩)
          have Lg12 := Lib.hid (show wr.heap.size ≤ g12 by rw [hgn]; exact HBD.out.size)
          replace HBD := Lib.hid (HBD.out.trans (hb.mono HBD.out.size))
          clear hb hwA hgn
          clear hHeld
          refine hK.out _ _ (by (try dsimp only); exact HKE.out _ HBD.out) (fun hHeld => ?_)
          clear hK K
          (try simp only [Act.put, List.setIfInBounds_toArray, List.set_cons_zero, List.set_cons_succ])
          refine' tk_call 11 ?hi94011 (by kernel_rfl) ?hr94011
          case hi94011 => (simp only [List.getElem?_toArray, List.getElem?_cons_succ, List.getElem?_cons_zero]; rfl)
          intro K hK
          go_simp
          obtain ⟨wB, hwA⟩ : ∃ x : World, x = wA.alloc (.cells #[.int .i64 0, .int .i64 0, .int .i64 0, .int .i64 0, .int .i64 0, .int .i64 0, .int .i64 0, .int .i64 0, .slice none 0 0, .int .i64 0, .int .i64 0, .slice none 0 0] 25) := ⟨_, rfl⟩
          rw [← hwA]
          have hb : Below wA.heap.size wA wB := by rw [hwA]; exact (Below.refl _ _).alloc (Nat.le_refl _) _
          obtain ⟨g13, hgn⟩ : ∃ x, x = wA.heap.size := ⟨_, rfl⟩
          rw [← hgn]
          have Hg13 := Lib.hid (show CBox wB g13 25 ⟨⟨0, 0, 0, 0, 0, 0, 0, 0, 0, 0⟩, .slice none 0 0, .slice none 0 0⟩ by rw [hwA, hgn]; exact CBox.made wA 25 ⟨⟨0, 0, 0, 0, 0, 0, 0, 0, 0, 0⟩, .slice none 0 0, .slice none 0 0⟩)
          have Lg13 := Lib.hid (show wr.heap.size ≤ g13 by rw [hgn]; exact HBD.out.size)
          have HNE := Lib.hid (show g12 ≠ g13 by have := Hg12.out.lt; omega)
          replace Hg12 := Lib.hid (Hg12.out.keep hb)
          replace HBD := Lib.hid (HBD.out.trans (hb.mono HBD.out.size))
          clear hb hwA hgn
          clear hHeld
          refine hK.out _ _ (by (try dsimp only); exact HKE.out _ HBD.out) (fun hHeld => ?_)
          clear hK K
          (try simp only [Act.put, List.setIfInBounds_toArray, List.set_cons_zero, List.set_cons_succ])
          have r0 : wB.cell? ⟨g12, 0, none⟩ = some (.int .i64 0) := Hg12.out.c0
          have r1 : wB.cell? ⟨g12, 1, none⟩ = some (.int .i64 0) := Hg12.out.c1
          have r2 : wB.cell? ⟨g12, 2, none⟩ = some (.int .i64 0) := Hg12.out.c2
          have r3 : wB.cell? ⟨g12, 3, none⟩ = some (.int .i64 0) := Hg12.out.c3
          have r4 : wB.cell? ⟨g12, 4, none⟩ = some (.int .i64 0) := Hg12.out.c4
          have r5 : wB.cell? ⟨g12, 5, none⟩ = some (.int .i64 0) := Hg12.out.c5
          have r6 : wB.cell? ⟨g12, 6, none⟩ = some (.int .i64 0) := Hg12.out.c6
          have r7 : wB.cell? ⟨g12, 7, none⟩ = some (.int .i64 0) := Hg12.out.c7
          have r8 : wB.cell? ⟨g12, 8, none⟩ = some (.slice none 0 0) := Hg12.out.c8
          have r9 : wB.cell? ⟨g12, 9, none⟩ = some (.int .i64 0) := Hg12.out.c9
          have r10 : wB.cell? ⟨g12, 10, none⟩ = some (.int .i64 0) := Hg12.out.c10
          have r11 : wB.cell? ⟨g12, 11, none⟩ = some (.slice none 0 0) := Hg12.out.c11
          have fr0 : wB.frozen? ⟨g12, 0, none⟩ = false := Hg12.out.fr 0
          have fr1 : wB.frozen? ⟨g12, 1, none⟩ = false := Hg12.out.fr 1
          have fr2 : wB.frozen? ⟨g12, 2, none⟩ = false := Hg12.out.fr 2
          have fr3 : wB.frozen? ⟨g12, 3, none⟩ = false := Hg12.out.fr 3
          have fr4 : wB.frozen? ⟨g12, 4, none⟩ = false := Hg12.out.fr 4
          have fr5 : wB.frozen? ⟨g12, 5, none⟩ = false := Hg12.out.fr 5
          have fr6 : wB.frozen? ⟨g12, 6, none⟩ = false := Hg12.out.fr 6
          have fr7 : wB.frozen? ⟨g12, 7, none⟩ = false := Hg12.out.fr 7
          have fr8 : wB.frozen? ⟨g12, 8, none⟩ = false := Hg12.out.fr 8
          have fr9 : wB.frozen? ⟨g12, 9, none⟩ = false := Hg12.out.fr 9
          have fr10 : wB.frozen? ⟨g12, 10, none⟩ = false := Hg12.out.fr 10
          have fr11 : wB.frozen? ⟨g12, 11, none⟩ = false := Hg12.out.fr 11
          refine' tk_call 12 ?hi94012 (by kernel_rfl) ?hr94012
          case hi94012 => (simp only [List.getElem?_toArray, List.getElem?_cons_succ, List.getElem?_cons_zero]; rfl)
          intro K hK
          go_simp
          have H12 := Lib.hid (show CBox (set12 wB g12 ⟨dx.h, .slice q1 n3 q2, .slice q3 n4 q4⟩) g12 25 ⟨dx.h, .slice q1 n3 q2, .slice q3 n4 q4⟩ from CBox.set12 Hg12.out)
          have H13 := Lib.hid (show CBox (set12 wB g12 ⟨dx.h, .slice q1 n3 q2, .slice q3 n4 q4⟩) g13 25 ⟨⟨0, 0, 0, 0, 0, 0, 0, 0, 0, 0⟩, .slice none 0 0, .slice none 0 0⟩ from CBox.other12 Hg13.out (Ne.symm HNE.out))
          have HBE := Lib.hid (show Below wr.heap.size wr (set12 wB g12 ⟨dx.h, .slice q1 n3 q2, .slice q3 n4 q4⟩) from Below.set12 HBD.out Lg12.out)
          change K _ (set12 wB g12 ⟨dx.h, .slice q1 n3 q2, .slice q3 n4 q4⟩)
          generalize set12 wB g12 ⟨dx.h, .slice q1 n3 q2, .slice q3 n4 q4⟩ = wE at H12 H13 HBE ⊢
          clear hHeld
          refine hK.out _ _ (by (try dsimp only); exact HKE.out _ HBE.out) (fun hHeld => ?_)
          clear hK K
          (try simp only [Act.put, List.setIfInBounds_toArray, List.set_cons_zero, List.set_cons_succ])
          clear r0 fr0 r1 fr1 r2 fr2 r3 fr3 r4 fr4 r5 fr5 r6 fr6 r7 fr7 r8 fr8 r9 fr9 r10 fr10 r11 fr11
          have r0 : wE.cell? ⟨g13, 0, none⟩ = some (.int .i64 0) := H13.out.c0
          have r1 : wE.cell? ⟨g13, 1, none⟩ = some (.int .i64 0) := H13.out.c1
          have r2 : wE.cell? ⟨g13, 2, none⟩ = some (.int .i64 0) := H13.out.c2
          have r3 : wE.cell? ⟨g13, 3, none⟩ = some (.int .i64 0) := H13.out.c3
          have r4 : wE.cell? ⟨g13, 4, none⟩ = some (.int .i64 0) := H13.out.c4
          have r5 : wE.cell? ⟨g13, 5, none⟩ = some (.int .i64 0) := H13.out.c5
          have r6 : wE.cell? ⟨g13, 6, none⟩ = some (.int .i64 0) := H13.out.c6
          have r7 : wE.cell? ⟨g13, 7, none⟩ = some (.int .i64 0) := H13.out.c7
          have r8 : wE.cell? ⟨g13, 8, none⟩ = some (.slice none 0 0) := H13.out.c8
          have r9 : wE.cell? ⟨g13, 9, none⟩ = some (.int .i64 0) := H13.out.c9
          have r10 : wE.cell? ⟨g13, 10, none⟩ = some (.int .i64 0) := H13.out.c10
          have r11 : wE.cell? ⟨g13, 11, none⟩ = some (.slice none 0 0) := H13.out.c11
          have fr0 : wE.frozen? ⟨g13, 0, none⟩ = false := H13.out.fr 0
          have fr1 : wE.frozen? ⟨g13, 1, none⟩ = false := H13.out.fr 1
          have fr2 : wE.frozen? ⟨g13, 2, none⟩ = false := H13.out.fr 2
          have fr3 : wE.frozen? ⟨g13, 3, none⟩ = false := H13.out.fr 3
          have fr4 : wE.frozen? ⟨g13, 4, none⟩ = false := H13.out.fr 4
          have fr5 : wE.frozen? ⟨g13, 5, none⟩ = false := H13.out.fr 5
          have fr6 : wE.frozen? ⟨g13, 6, none⟩ = false := H13.out.fr 6
          have fr7 : wE.frozen? ⟨g13, 7, none⟩ = false := H13.out.fr 7
          have fr8 : wE.frozen? ⟨g13, 8, none⟩ = false := H13.out.fr 8
          have fr9 : wE.frozen? ⟨g13, 9, none⟩ = false := H13.out.fr 9
          have fr10 : wE.frozen? ⟨g13, 10, none⟩ = false := H13.out.fr 10
          have fr11 : wE.frozen? ⟨g13, 11, none⟩ = false := H13.out.fr 11
          refine' tk_call 13 ?hi94013 (by kernel_rfl) ?hr94013
          case hi94013 => (simp only [List.getElem?_toArray, List.getElem?_cons_succ, List.getElem?_cons_zero]; rfl)
          intro K hK
          go_simp
          have H23 := Lib.hid (show CBox (set12 wE g13 ⟨cx.h, .slice p1 n1 p2, .slice p3 n2 p4⟩) g13 25 ⟨cx.h, .slice p1 n1 p2, .slice p3 n2 p4⟩ from CBox.set12 H13.out)
          have H22 := Lib.hid (show CBox (set12 wE g13 ⟨cx.h, .slice p1 n1 p2, .slice p3 n2 p4⟩) g12 25 ⟨dx.h, .slice q1 n3 q2, .slice q3 n4 q4⟩ from CBox.other12 H12.out HNE.out)
          have HBF := Lib.hid (show Below wr.heap.size wr (set12 wE g13 ⟨cx.h, .slice p1 n1 p2, .slice p3 n2 p4⟩) from Below.set12 HBE.out Lg13.out)
          change K _ (set12 wE g13 ⟨cx.h, .slice p1 n1 p2, .slice p3 n2 p4⟩)
          generalize set12 wE g13 ⟨cx.h, .slice p1 n1 p2, .slice p3 n2 p4⟩ = wF at H23 H22 HBF ⊢
          clear hHeld
          refine hK.out _ _ (by (try dsimp only); exact HKE.out _ HBF.out) (fun hHeld => ?_)
          clear hK K
          (try simp only [Act.put, List.setIfInBounds_toArray, List.set_cons_zero, List.set_cons_succ])
          refine wpAnyH_done (by kernel_rfl) ?_ _
          refine NoPanic.normal ?_
          clear r0 fr0 r1 fr1 r2 fr2 r3 fr3 r4 fr4 r5 fr5 r6 fr6 r7 fr7 r8 fr8 r9 fr9 r10 fr10 r11 fr11
          go_wp2
          go_meet
          case rel => exact ⟨g12, g13, rfl, rfl, H22, H23, Lib.hid ⟨HNE.out, Lg12.out, Lg13.out⟩, HBF⟩
        case hb94017 =>
          intro K hK
          go_simp
          obtain ⟨wA, hwA⟩ : ∃ x : World, x = wd.alloc (.cells #[.int .i64 0, .int .i64 0, .int .i64 0, .int .i64 0, .int .i64 0, .int .i64 0, .int .i64 0, .int .i64 0, .slice none 0 0, .int .i64 0, .int .i64 0, .slice none 0 0] 25) := ⟨_, rfl⟩
          rw [← hwA]
          have hb : Below wd.heap.size wd wA := by rw [hwA]; exact (Below.refl _ _).alloc (Nat.le_refl _) _
          obtain ⟨g13, hgn⟩ : ∃ x, x = wd.heap.size := ⟨_, rfl⟩
          rw [← hgn]
          have Hg13 := Lib.hid (show CBox wA g13 25 ⟨⟨0, 0, 0, 0, 0, 0, 0, 0, 0, 0⟩, .slice none 0 0, .slice none 0 0⟩ by rw [hwA, hgn]; exact CBox.made wd 25 ⟨⟨0, 0, 0, 0, 0, 0, 0, 0, 0, 0⟩, .slice none 0 0, .slice none 0 0⟩)
          have Lg13 := Lib.hid (show wr.heap.size ≤ g13 by rw [hgn]; exact HBD.out.size)
          replace HBD := Lib.hid (HBD.out.trans (hb.mono HBD.out.size))
          clear hb hwA hgn
          clear hHeld
          refine hK.out _ _ (by (try dsimp only); exact HKE.out _ HBD.out) (fun hHeld => ?_)
          clear hK K
          (try simp only [Act.put, List.setIfInBounds_toArray, List.set_cons_zero, List.set_cons_succ])
          refine' tk_call 10 ?hi94014 (by kernel_rfl) ?hr94014
          case hi94014 => (simp only [List.getElem?_toArray, List.getElem?_cons_succ, List.getElem?_cons_zero]; rfl)
          intro K hK
          go_simp
          obtain ⟨wB, hwA⟩ : ∃ x : World, x = wA.alloc (.cells #[.int .i64 0, .int .i64 0, .int .i64 0, .int .i64 0, .int .i64 0, .int .i64 0, .int .i64 0, .int .i64 0, .slice none 0 0, .int .i64 0, .int .i64 0, .slice none 0 0] 25) := ⟨_, rfl⟩
          rw [← hwA]
          have hb : Below wA.heap.size wA wB := by rw [hwA]; exact (Below.refl _ _).alloc (Nat.le_refl _) _
          obtain ⟨g12, hgn⟩ : ∃ x, x = wA.heap.size := ⟨_, rfl⟩
          rw [← hgn]
          have Hg12 := Lib.hid (show CBox wB g12 25 ⟨⟨0, 0, 0, 0, 0, 0, 0, 0, 0, 0⟩, .slice none 0 0, .slice none 0 0⟩ by rw [hwA, hgn]; exact CBox.made wA 25 ⟨⟨0, 0, 0, 0, 0, 0, 0, 0, 0, 0⟩, .slice none 0 0, .slice none 0 0⟩)
          have Lg12 := Lib.hid (show wr.heap.size ≤ g12 by rw [hgn]; exact HBD.out.size)
          have HNE := Lib.hid (show g12 ≠ g13 by have := Hg13.out.lt; omega)
          replace Hg13 := Lib.hid (Hg13.out.keep hb)
          replace HBD := Lib.hid (HBD.out.trans (hb.mono HBD.out.size))
          clear hb hwA hgn
          clear hHeld
          refine hK.out _ _ (by (try dsimp only); exact HKE.out _ HBD.out) (fun hHeld => ?_)
          clear hK K
          (try simp only [Act.put, List.setIfInBounds_toArray, List.set_cons_zero, List.set_cons_succ])
          have r0 : wB.cell? ⟨g12, 0, none⟩ = some (.int .i64 0) := Hg12.out.c0
          have r1 : wB.cell? ⟨g12, 1, none⟩ = some (.int .i64 0) := Hg12.out.c1
          have r2 : wB.cell? ⟨g12, 2, none⟩ = some (.int .i64 0) := Hg12.out.c2
          have r3 : wB.cell? ⟨g12, 3, none⟩ = some (.int .i64 0) := Hg12.out.c3
          have r4 : wB.cell? ⟨g12, 4, none⟩ = some (.int .i64 0) := Hg12.out.c4
          have r5 : wB.cell? ⟨g12, 5, none⟩ = some (.int .i64 0) := Hg12.out.c5
          have r6 : wB.cell? ⟨g12, 6, none⟩ = some (.int .i64 0) := Hg12.out.c6
          have r7 : wB.cell? ⟨g12, 7, none⟩ = some (.int .i64 0) := Hg12.out.c7
          have r8 : wB.cell? ⟨g12, 8, none⟩ = some (.slice none 0 0) := Hg12.out.c8
          have r9 : wB.cell? ⟨g12, 9, none⟩ = some (.int .i64 0) := Hg12.out.c9
          have r10 : wB.cell? ⟨g12, 10, none⟩ = some (.int .i64 0) := Hg12.out.c10
          have r11 : wB.cell? ⟨g12, 11, none⟩ = some (.slice none 0 0) := Hg12.out.c11
          have fr0 : wB.frozen? ⟨g12, 0, none⟩ = false := Hg12.out.fr 0
          have fr1 : wB.frozen? ⟨g12, 1, none⟩ = false := Hg12.out.fr 1
          have fr2 : wB.frozen? ⟨g12, 2, none⟩ = false := Hg12.out.fr 2
          have fr3 : wB.frozen? ⟨g12, 3, none⟩ = false := Hg12.out.fr 3
          have fr4 : wB.frozen? ⟨g12, 4, none⟩ = false := Hg12.out.fr 4
          have fr5 : wB.frozen? ⟨g12, 5, none⟩ = false := Hg12.out.fr 5
          have fr6 : wB.frozen? ⟨g12, 6, none⟩ = false := Hg12.out.fr 6
          have fr7 : wB.frozen? ⟨g12, 7, none⟩ = false := Hg12.out.fr 7
          have fr8 : wB.frozen? ⟨g12, 8, none⟩ = false := Hg12.out.fr 8
          have fr9 : wB.frozen? ⟨g12, 9, none⟩ = false := Hg12.out.fr 9
          have fr10 : wB.frozen? ⟨g12, 10, none⟩ = false := Hg12.out.fr 10
          have fr11 : wB.frozen? ⟨g12, 11, none⟩ = false := Hg12.out.fr 11
          refine' tk_call 12 ?hi94015 (by kernel_rfl) ?hr94015
          case hi94015 => (simp only [List.getElem?_toArray, List.getElem?_cons_succ, List.getElem?_cons_zero]; rfl)
          intro K hK
          go_simp
          have H12 := Lib.hid (show CBox (set12 wB g12 ⟨dx.h, .slice q1 n3 q2, .slice q3 n4 q4⟩) g12 25 ⟨dx.h, .slice q1 n3 q2, .slice q3 n4 q4⟩ from CBox.set12 Hg12.out)
          have H13 := Lib.hid (show CBox (set12 wB g12 ⟨dx.h, .slice q1 n3 q2, .slice q3 n4 q4⟩) g13 25 ⟨⟨0, 0, 0, 0, 0, 0, 0, 0, 0, 0⟩, .slice none 0 0, .slice none 0 0⟩ from CBox.other12 Hg13.out (Ne.symm HNE.out))
          have HBE := Lib.hid (show Below wr.heap.size wr (set12 wB g12 ⟨dx.h, .slice q1 n3 q2, .slice q3 n4 q4⟩) from Below.set12 HBD.out Lg12.out)
          change K _ (set12 wB g12 ⟨dx.h, .slice q1 n3 q2, .slice q3 n4 q4⟩)
          generalize set12 wB g12 ⟨dx.h, .slice q1 n3 q2, .slice q3 n4 q4⟩ = wE at H12 H13 HBE ⊢
          clear hHeld
          refine hK.out _ _ (by (try dsimp only); exact HKE.out _ HBE.out) (fun hHeld => ?_)
          clear hK K
          (try simp only [Act.put, List.setIfInBounds_toArray, List.set_cons_zero, List.set_cons_succ])
          clear r0 fr0 r1 fr1 r2 fr2 r3 fr3 r4 fr4 r5 fr5 r6 fr6 r7 fr7 r8 fr8 r9 fr9 r10 fr10 r11 fr11
          have r0 : wE.cell? ⟨g13, 0, none⟩ = some (.int .i64 0) := H13.out.c0
          have r1 : wE.cell? ⟨g13, 1, none⟩ = some (.int .i64 0) := H13.out.c1
          have r2 : wE.cell? ⟨g13, 2, none⟩ = some (.int .i64 0) := H13.out.c2
          have r3 : wE.cell? ⟨g13, 3, none⟩ = some (.int .i64 0) := H13.out.c3
          have r4 : wE.cell? ⟨g13, 4, none⟩ = some (.int .i64 0) := H13.out.c4
          have r5 : wE.cell? ⟨g13, 5, none⟩ = some (.int .i64 0) := H13.out.c5
          have r6 : wE.cell? ⟨g13, 6, none⟩ = some (.int .i64 0) := H13.out.c6
          have r7 : wE.cell? ⟨g13, 7, none⟩ = some (.int .i64 0) := H13.out.c7
          have r8 : wE.cell? ⟨g13, 8, none⟩ = some (.slice none 0 0) := H13.out.c8
          have r9 : wE.cell? ⟨g13, 9, none⟩ = some (.int .i64 0) := H13.out.c9
          have r10 : wE.cell? ⟨g13, 10, none⟩ = some (.int .i64 0) := H13.out.c10
          have r11 : wE.cell? ⟨g13, 11, none⟩ = some (.slice none 0 0) := H13.out.c11
          have fr0 : wE.frozen? ⟨g13, 0, none⟩ = false := H13.out.fr 0
          have fr1 : wE.frozen? ⟨g13, 1, none⟩ = false := H13.out.fr 1
          have fr2 : wE.frozen? ⟨g13, 2, none⟩ = false := H13.out.fr 2
          have fr3 : wE.frozen? ⟨g13, 3, none⟩ = false := H13.out.fr 3
          have fr4 : wE.frozen? ⟨g13, 4, none⟩ = false := H13.out.fr 4
          have fr5 : wE.frozen? ⟨g13, 5, none⟩ = false := H13.out.fr 5
          have fr6 : wE.frozen? ⟨g13, 6, none⟩ = false := H13.out.fr 6
          have fr7 : wE.frozen? ⟨g13, 7, none⟩ = false := H13.out.fr 7
          have fr8 : wE.frozen? ⟨g13, 8, none⟩ = false := H13.out.fr 8
          have fr9 : wE.frozen? ⟨g13, 9, none⟩ = false := H13.out.fr 9
          have fr10 : wE.frozen? ⟨g13, 10, none⟩ = false := H13.out.fr 10
          have fr11 : wE.frozen? ⟨g13, 11, none⟩ = false := H13.out.fr 11
          refine' tk_call 13 ?hi94016 (by kernel_rfl) ?hr94016
          case hi94016 => (simp only [List.getElem?_toArray, List.getElem?_cons_succ, List.getElem?_cons_zero]; rfl)
          intro K hK
          go_simp
          have H23 := Lib.hid (show CBox (set12 wE g13 ⟨cx.h, .slice p1 n1 p2, .slice p3 n2 p4⟩) g13 25 ⟨cx.h, .slice p1 n1 p2, .slice p3 n2 p4⟩ from CBox.set12 H13.out)
          have H22 := Lib.hid (show CBox (set12 wE g13 ⟨cx.h, .slice p1 n1 p2, .slice p3 n2 p4⟩) g12 25 ⟨dx.h, .slice q1 n3 q2, .slice q3 n4 q4⟩ from CBox.other12 H12.out HNE.out)
          have HBF := Lib.hid (show Below wr.heap.size wr (set12 wE g13 ⟨cx.h, .slice p1 n1 p2, .slice p3 n2 p4⟩) from Below.set12 HBE.out Lg13.out)
          change K _ (set12 wE g13 ⟨cx.h, .slice p1 n1 p2, .slice p3 n2 p4⟩)
          generalize set12 wE g13 ⟨cx.h, .slice p1 n1 p2, .slice p3 n2 p4⟩ = wF at H23 H22 HBF ⊢
          clear hHeld
          refine hK.out _ _ (by (try dsimp only); exact HKE.out _ HBF.out) (fun hHeld => ?_)
          clear hK K
          (try simp only [Act.put, List.setIfInBounds_toArray, List.set_cons_zero, List.set_cons_succ])
          refine wpAnyH_done (by kernel_rfl) ?_ _
          refine NoPanic.normal ?_
          clear r0 fr0 r1 fr1 r2 fr2 r3 fr3 r4 fr4 r5 fr5 r6 fr6 r7 fr7 r8 fr8 r9 fr9 r10 fr10 r11 fr11
          go_wp2
          go_meet
          case rel => exact ⟨g12, g13, rfl, rfl, H22, H23, Lib.hid ⟨HNE.out, Lg12.out, Lg13.out⟩, HBF⟩
      case rest =>
        obtain ⟨g12, g13, rfl, rfl, HQ2, HQ3, HGG, HBS⟩ := hcut
        clear e0 u0 e1 u1 e2 u2 e3 u3 e4 u4 e5 u5 e6 u6 e7 u7 e8 u8 e9 u9 e10 u10 e11 u11 x11 y11 HKE hbc hbd
        by_cases hjm : j = m
        · have hlst : ((j : Int) == (nf : Int) - 1) = true := by rw [beq_iff_eq]; have := HM.out; omega
          have hwm : IntKind.i64.wrap ((nf : Int) - 1) = (nf : Int) - 1 := by rw [IntKind.wrap_i64]; omega
          have HJM := Lib.hid hjm
          clear hjm
          go_upto_region 13 with fail
          go_cut [] from 92 to 93 (fun wx => Hid (CBox wx g12 25 ⟨cx.h, .slice p1 n1 p2, .slice p3 n2 p4⟩) ∧ Hid (CBox wx g13 25 ⟨dx.h, .slice q1 n3 q2, .slice q3 n4 q4⟩) ∧ Hid (Below wr.heap.size wr wx))
          case first =>
            have x0 : wc.cell? ⟨g12, 0, none⟩ = some (.int .i64 dx.h.f0) := HQ2.out.c0
            have x1 : wc.cell? ⟨g12, 1, none⟩ = some (.int .i64 dx.h.f1) := HQ2.out.c1
            have x2 : wc.cell? ⟨g12, 2, none⟩ = some (.int .i64 dx.h.f2) := HQ2.out.c2
            have x3 : wc.cell? ⟨g12, 3, none⟩ = some (.int .i64 dx.h.f3) := HQ2.out.c3
            have x4 : wc.cell? ⟨g12, 4, none⟩ = some (.int .i64 dx.h.f4) := HQ2.out.c4
            have x5 : wc.cell? ⟨g12, 5, none⟩ = some (.int .i64 dx.h.f5) := HQ2.out.c5
            have x6 : wc.cell? ⟨g12, 6, none⟩ = some (.int .i64 dx.h.pair) := HQ2.out.c6
            have x7 : wc.cell? ⟨g12, 7, none⟩ = some (.int .i64 dx.h.pl) := HQ2.out.c7
            have x8 : wc.cell? ⟨g12, 8, none⟩ = some (.slice q1 n3 q2) := HQ2.out.c8
            have x9 : wc.cell? ⟨g12, 9, none⟩ = some (.int .i64 dx.h.fn) := HQ2.out.c9
            have x10 : wc.cell? ⟨g12, 10, none⟩ = some (.int .i64 dx.h.fl) := HQ2.out.c10
            have x11 : wc.cell? ⟨g12, 11, none⟩ = some (.slice q3 n4 q4) := HQ2.out.c11
            have fr0 : wc.frozen? ⟨g12, 0, none⟩ = false := HQ2.out.fr 0
            have fr1 : wc.frozen? ⟨g12, 1, none⟩ = false := HQ2.out.fr 1
            have fr2 : wc.frozen? ⟨g12, 2, none⟩ = false := HQ2.out.fr 2
            have fr3 : wc.frozen? ⟨g12, 3, none⟩ = false := HQ2.out.fr 3
            have fr4 : wc.frozen? ⟨g12, 4, none⟩ = false := HQ2.out.fr 4
            have fr5 : wc.frozen? ⟨g12, 5, none⟩ = false := HQ2.out.fr 5
            have fr6 : wc.frozen? ⟨g12, 6, none⟩ = false := HQ2.out.fr 6
            have fr7 : wc.frozen? ⟨g12, 7, none⟩ = false := HQ2.out.fr 7
            have fr8 : wc.frozen? ⟨g12, 8, none⟩ = false := HQ2.out.fr 8
            have fr9 : wc.frozen? ⟨g12, 9, none⟩ = false := HQ2.out.fr 9
            have fr10 : wc.frozen? ⟨g12, 10, none⟩ = false := HQ2.out.fr 10
            have fr11 : wc.frozen? ⟨g12, 11, none⟩ = false := HQ2.out.fr 11
            have y0 : wc.cell? ⟨g13, 0, none⟩ = some (.int .i64 cx.h.f0) := HQ3.out.c0
            have y1 : wc.cell? ⟨g13, 1, none⟩ = some (.int .i64 cx.h.f1) := HQ3.out.c1
            have y2 : wc.cell? ⟨g13, 2, none⟩ = some (.int .i64 cx.h.f2) := HQ3.out.c2
            have y3 : wc.cell? ⟨g13, 3, none⟩ = some (.int .i64 cx.h.f3) := HQ3.out.c3
            have y4 : wc.cell? ⟨g13, 4, none⟩ = some (.int .i64 cx.h.f4) := HQ3.out.c4
            have y5 : wc.cell? ⟨g13, 5, none⟩ = some (.int .i64 cx.h.f5) := HQ3.out.c5
            have y6 : wc.cell? ⟨g13, 6, none⟩ = some (.int .i64 cx.h.pair) := HQ3.out.c6
            have y7 : wc.cell? ⟨g13, 7, none⟩ = some (.int .i64 cx.h.pl) := HQ3.out.c7
            have y8 : wc.cell? ⟨g13, 8, none⟩ = some (.slice p1 n1 p2) := HQ3.out.c8
            have y9 : wc.cell? ⟨g13, 9, none⟩ = some (.int .i64 cx.h.fn) := HQ3.out.c9
            have y10 : wc.cell? ⟨g13, 10, none⟩ = some (.int .i64 cx.h.fl) := HQ3.out.c10
            have y11 : wc.cell? ⟨g13, 11, none⟩ = some (.slice p3 n2 p4) := HQ3.out.c11
            have fq0 : wc.frozen? ⟨g13, 0, none⟩ = false := HQ3.out.fr 0
            have fq1 : wc.frozen? ⟨g13, 1, none⟩ = false := HQ3.out.fr 1
            have fq2 : wc.frozen? ⟨g13, 2, none⟩ = false := HQ3.out.fr 2
            have fq3 : wc.frozen? ⟨g13, 3, none⟩ = false := HQ3.out.fr 3
            have fq4 : wc.frozen? ⟨g13, 4, none⟩ = false := HQ3.out.fr 4
            have fq5 : wc.frozen? ⟨g13, 5, none⟩ = false := HQ3.out.fr 5
            have fq6 : wc.frozen? ⟨g13, 6, none⟩ = false := HQ3.out.fr 6
            have fq7 : wc.frozen? ⟨g13, 7, none⟩ = false := HQ3.out.fr 7
            have fq8 : wc.frozen? ⟨g13, 8, none⟩ = false := HQ3.out.fr 8
            have fq9 : wc.frozen? ⟨g13, 9, none⟩ = false := HQ3.out.fr 9
            have fq10 : wc.frozen? ⟨g13, 10, none⟩ = false := HQ3.out.fr 10
            have fq11 : wc.frozen? ⟨g13, 11, none⟩ = false := HQ3.out.fr 11
            have hne1 := HGG.out.1
            go_wp2
            go_meet
            case rel =>
              have h1 : CBox (set12 wc g12 ⟨cx.h, .slice p1 n1 p2, .slice p3 n2 p4⟩) g12 25 ⟨cx.h, .slice p1 n1 p2, .slice p3 n2 p4⟩ := CBox.set12 HQ2.out
              have h2 : CBox (set12 wc g12 ⟨cx.h, .slice p1 n1 p2, .slice p3 n2 p4⟩) g13 25 ⟨cx.h, .slice p1 n1 p2, .slice p3 n2 p4⟩ := CBox.other12 HQ3.out (Ne.symm hne1)
              exact ⟨Lib.hid (show CBox (set12 (set12 wc g12 ⟨cx.h, .slice p1 n1 p2, .slice p3 n2 p4⟩) g13 ⟨dx.h, .slice q1 n3 q2, .slice q3 n4 q4⟩) g12 25 ⟨cx.h, .slice p1 n1 p2, .slice p3 n2 p4⟩ from CBox.other12 h1 hne1), Lib.hid (show CBox (set12 (set12 wc g12 ⟨cx.h, .slice p1 n1 p2, .slice p3 n2 p4⟩) g13 ⟨dx.h, .slice q1 n3 q2, .slice q3 n4 q4⟩) g13 25 ⟨dx.h, .slice q1 n3 q2, .slice q3 n4 q4⟩ from CBox.set12 h2), Lib.hid (show Below wr.heap.size wr (set12 (set12 wc g12 ⟨cx.h, .slice p1 n1 p2, .slice p3 n2 p4⟩) g13 ⟨dx.h, .slice q1 n3 q2, .slice q3 n4 q4⟩) from Below.set12 (Below.set12 HBS.out HGG.out.2.1) HGG.out.2.2)⟩
          case rest =>
            obtain ⟨HR2, HR3, HBT⟩ := hcut
            clear HQ2 HQ3 HBS
            have HQ2 := HR2
            have HQ3 := HR3
            have HBS := HBT
            clear HR2 HR3 HBT
            have x0 : wc.cell? ⟨g12, 0, none⟩ = some (.int .i64 cx.h.f0) := HQ2.out.c0
            have x1 : wc.cell? ⟨g12, 1, none⟩ = some (.int .i64 cx.h.f1) := HQ2.out.c1
            have x2 : wc.cell? ⟨g12, 2, none⟩ = some (.int .i64 cx.h.f2) := HQ2.out.c2
            have x3 : wc.cell? ⟨g12, 3, none⟩ = some (.int .i64 cx.h.f3) := HQ2.out.c3
            have x4 : wc.cell? ⟨g12, 4, none⟩ = some (.int .i64 cx.h.f4) := HQ2.out.c4
            have x5 : wc.cell? ⟨g12, 5, none⟩ = some (.int .i64 cx.h.f5) := HQ2.out.c5
            have x6 : wc.cell? ⟨g12, 6, none⟩ = some (.int .i64 cx.h.pair) := HQ2.out.c6
            have x7 : wc.cell? ⟨g12, 7, none⟩ = some (.int .i64 cx.h.pl) := HQ2.out.c7
            have x8 : wc.cell? ⟨g12, 8, none⟩ = some (.slice p1 n1 p2) := HQ2.out.c8
            have x9 : wc.cell? ⟨g12, 9, none⟩ = some (.int .i64 cx.h.fn) := HQ2.out.c9
            have x10 : wc.cell? ⟨g12, 10, none⟩ = some (.int .i64 cx.h.fl) := HQ2.out.c10
            have x11 : wc.cell? ⟨g12, 11, none⟩ = some (.slice p3 n2 p4) := HQ2.out.c11
            have y0 : wc.cell? ⟨g13, 0, none⟩ = some (.int .i64 dx.h.f0) := HQ3.out.c0
            have y1 : wc.cell? ⟨g13, 1, none⟩ = some (.int .i64 dx.h.f1) := HQ3.out.c1
            have y2 : wc.cell? ⟨g13, 2, none⟩ = some (.int .i64 dx.h.f2) := HQ3.out.c2
            have y3 : wc.cell? ⟨g13, 3, none⟩ = some (.int .i64 dx.h.f3) := HQ3.out.c3
            have y4 : wc.cell? ⟨g13, 4, none⟩ = some (.int .i64 dx.h.f4) := HQ3.out.c4
            have y5 : wc.cell? ⟨g13, 5, none⟩ = some (.int .i64 dx.h.f5) := HQ3.out.c5
            have y6 : wc.cell? ⟨g13, 6, none⟩ = some (.int .i64 dx.h.pair) := HQ3.out.c6
            have y7 : wc.cell? ⟨g13, 7, none⟩ = some (.int .i64 dx.h.pl) := HQ3.out.c7
            have y8 : wc.cell? ⟨g13, 8, none⟩ = some (.slice q1 n3 q2) := HQ3.out.c8
            have y9 : wc.cell? ⟨g13, 9, none⟩ = some (.int .i64 dx.h.fn) := HQ3.out.c9
            have y10 : wc.cell? ⟨g13, 10, none⟩ = some (.int .i64 dx.h.fl) := HQ3.out.c10
            have y11 : wc.cell? ⟨g13, 11, none⟩ = some (.slice q3 n4 q4) := HQ3.out.c11
            obtain ⟨k1, hk1, hw1⟩ := HT.out
            have HC2 := Lib.hid (HCA.out m j (by rw [← HNF.out]; exact HM.out) (by rw [← HMF.out]; exact HM.out) (by rw [← HM.out]; exact HKL.out) wc (.agg #[.int .i64 cx.h.f0, .int .i64 cx.h.f1, .int .i64 cx.h.f2, .int .i64 cx.h.f3, .int .i64 cx.h.f4, .int .i64 cx.h.f5, .int .i64 cx.h.pair, .int .i64 cx.h.pl, .slice p1 n1 p2, .int .i64 cx.h.fn, .int .i64 cx.h.fl, .slice p3 n2 p4]) (.agg #[.int .i64 dx.h.f0, .int .i64 dx.h.f1, .int .i64 dx.h.f2, .int .i64 dx.h.f3, .int .i64 dx.h.f4, .int .i64 dx.h.f5, .int .i64 dx.h.pair, .int .i64 dx.h.pl, .slice q1 n3 q2, .int .i64 dx.h.fn, .int .i64 dx.h.fl, .slice q3 n4 q4]) k1 hk1 (HS.out.trans (HBL.out.then HBS.out)) (hw1.keep HBS.out) (by rw [if_pos HJM.out, HCX.out]; exact HVC.out.below HBS.out) (by rw [if_pos HJM.out, HDX.out]; exact HVD.out.below HBS.out))
            clear hw1 hk1
            go_wp2_with fail
            refine HC2.out.mono ?_
            rintro e' w2 ⟨⟨v, rfl, hv⟩, hst2, hk2⟩
            obtain ⟨fd, hfd⟩ : ∃ x, x = partF n c d m j := ⟨_, rfl⟩
            rw [← hfd] at hv
            obtain ⟨ra, rc, rb, rd, rfl, _, _⟩ := hv.form
            have hr := CoVN.raw (h := fd.h) hv
            obtain ⟨rn, hrn⟩ : ∃ n, n = fd.pairs.length := ⟨_, rfl⟩
            obtain ⟨rm, hrm⟩ : ∃ n, n = fd.funs.length := ⟨_, rfl⟩
            rw [← hrn, ← hrm] at hr ⊢
            have HFD := Lib.hid hfd
            clear hfd hrn hrm
            obtain ⟨L, hrow, hLL⟩ := HA.out
            have hrow1 := hrow.stay (Stay.of (N := (· = cw)) HBS.out) (fun b hb => by rw [hb]; have := HCW.out; have := HB.out.size; omega)
            have hrow2 := hrow1.stay hst2 (fun b hb => by rw [hb]; have := HCW.out; have := HB.out.size; omega)
            have HSW := HBS.out.size
            have hlg := hrow.lt
            have HR := Lib.hid (show RawCo w2 (BlkO W.heap.size g w2) ⟨fd.h, .slice ra rn rc, .slice rb rm rd⟩ fd from hr.mono (fun b hb => ⟨by have := HBL.out.size; have := hb.2; unfold Old at this; omega, hb.1, by have := hb.2; unfold Old at this; omega⟩) fun _ _ _ => rfl)
            obtain ⟨r', c0, c1, c2, c3, c4, c5, c6, c7, c8, c9, c10, c11, hfz⟩ := hrow2.get HKL.out
            have z0 := hfz (j * 12)
            have z1 := hfz (j * 12 + 1)
            have z2 := hfz (j * 12 + 2)
            have z3 := hfz (j * 12 + 3)
            have z4 := hfz (j * 12 + 4)
            have z5 := hfz (j * 12 + 5)
            have z6 := hfz (j * 12 + 6)
            have z7 := hfz (j * 12 + 7)
            have z8 := hfz (j * 12 + 8)
            have z9 := hfz (j * 12 + 9)
            have z10 := hfz (j * 12 + 10)
            have z11 := hfz (j * 12 + 11)
            have HROW2 := Lib.hid hrow2
            have HLL := Lib.hid hLL
            have HB2 := Lib.hid ((HBL.out.then HBS.out).trans hst2)
            have HN2 := Lib.hid hk2
            clear hst2 hk2 hr hv hrow hrow1 hrow2 hLL hfz hlg HSW HA
            go_wp2
            refine ⟨⟨j + 1, by have := HKL.out; omega, by go_num, ?_, ?_, ?_⟩, by have := HKL.out; simp [intOf]; omega⟩
            · have hset := RowO.set (r := ⟨fd.h, .slice ra rn rc, .slice rb rm rd⟩) (c := fd) HROW2.out HKL.out HR.out
              refine Lib.hid ⟨L.set j fd, hset, fun i hi => ?_⟩
              have hLn := HROW2.out.1
              by_cases e : i = j
              · rw [e, ← HFD.out]; simp [List.getD_eq_getElem?_getD, hLn, HKL.out]
              · rw [← HLL.out i (by omega)]; simp [List.getD_eq_getElem?_getD, Ne.symm e]
            · exact Lib.hid (Stay.setA (o := j * 12) (r := ⟨fd.h, .slice ra rn rc, .slice rb rm rd⟩) HB2.out (by rw [HGE.out]; exact Nat.le_refl _))
            · refine Lib.hid ?_
              obtain ⟨k', h1, h2⟩ := HN2.out
              exact ⟨k', h1, show WalkC M cw k' (setA w2 g (j * 12) ⟨fd.h, .slice ra rn rc, .slice rb rm rd⟩) from VarIs.setA (o := j * 12) (r := ⟨fd.h, .slice ra rn rc, .slice rb rm rd⟩) h2 (by rw [HGE.out]; have := HCW.out; have := HB.out.size; omega)⟩
        · have hlst : ((j : Int) == (nf : Int) - 1) = false := by apply beq_false_of_ne; have := HM.out; omega
          have hwm : IntKind.i64.wrap ((nf : Int) - 1) = (nf : Int) - 1 := by rw [IntKind.wrap_i64]; omega
          have HJM := Lib.hid hjm
          clear hjm
          have x0 : wc.cell? ⟨g12, 0, none⟩ = some (.int .i64 dx.h.f0) := HQ2.out.c0
          have x1 : wc.cell? ⟨g12, 1, none⟩ = some (.int .i64 dx.h.f1) := HQ2.out.c1
          have x2 : wc.cell? ⟨g12, 2, none⟩ = some (.int .i64 dx.h.f2) := HQ2.out.c2
          have x3 : wc.cell? ⟨g12, 3, none⟩ = some (.int .i64 dx.h.f3) := HQ2.out.c3
          have x4 : wc.cell? ⟨g12, 4, none⟩ = some (.int .i64 dx.h.f4) := HQ2.out.c4
          have x5 : wc.cell? ⟨g12, 5, none⟩ = some (.int .i64 dx.h.f5) := HQ2.out.c5
          have x6 : wc.cell? ⟨g12, 6, none⟩ = some (.int .i64 dx.h.pair) := HQ2.out.c6
          have x7 : wc.cell? ⟨g12, 7, none⟩ = some (.int .i64 dx.h.pl) := HQ2.out.c7
          have x8 : wc.cell? ⟨g12, 8, none⟩ = some (.slice q1 n3 q2) := HQ2.out.c8
          have x9 : wc.cell? ⟨g12, 9, none⟩ = some (.int .i64 dx.h.fn) := HQ2.out.c9
          have x10 : wc.cell? ⟨g12, 10, none⟩ = some (.int .i64 dx.h.fl) := HQ2.out.c10
          have x11 : wc.cell? ⟨g12, 11, none⟩ = some (.slice q3 n4 q4) := HQ2.out.c11
          have y0 : wc.cell? ⟨g13, 0, none⟩ = some (.int .i64 cx.h.f0) := HQ3.out.c0
          have y1 : wc.cell? ⟨g13, 1, none⟩ = some (.int .i64 cx.h.f1) := HQ3.out.c1
          have y2 : wc.cell? ⟨g13, 2, none⟩ = some (.int .i64 cx.h.f2) := HQ3.out.c2
          have y3 : wc.cell? ⟨g13, 3, none⟩ = some (.int .i64 cx.h.f3) := HQ3.out.c3
          have y4 : wc.cell? ⟨g13, 4, none⟩ = some (.int .i64 cx.h.f4) := HQ3.out.c4
          have y5 : wc.cell? ⟨g13, 5, none⟩ = some (.int .i64 cx.h.f5) := HQ3.out.c5
          have y6 : wc.cell? ⟨g13, 6, none⟩ = some (.int .i64 cx.h.pair) := HQ3.out.c6
          have y7 : wc.cell? ⟨g13, 7, none⟩ = some (.int .i64 cx.h.pl) := HQ3.out.c7
          have y8 : wc.cell? ⟨g13, 8, none⟩ = some (.slice p1 n1 p2) := HQ3.out.c8
          have y9 : wc.cell? ⟨g13, 9, none⟩ = some (.int .i64 cx.h.fn) := HQ3.out.c9
          have y10 : wc.cell? ⟨g13, 10, none⟩ = some (.int .i64 cx.h.fl) := HQ3.out.c10
          have y11 : wc.cell? ⟨g13, 11, none⟩ = some (.slice p3 n2 p4) := HQ3.out.c11
          obtain ⟨k1, hk1, hw1⟩ := HT.out
          have HC2 := Lib.hid (HCA.out m j (by rw [← HNF.out]; exact HM.out) (by rw [← HMF.out]; exact HM.out) (by rw [← HM.out]; exact HKL.out) wc (.agg #[.int .i64 dx.h.f0, .int .i64 dx.h.f1, .int .i64 dx.h.f2, .int .i64 dx.h.f3, .int .i64 dx.h.f4, .int .i64 dx.h.f5, .int .i64 dx.h.pair, .int .i64 dx.h.pl, .slice q1 n3 q2, .int .i64 dx.h.fn, .int .i64 dx.h.fl, .slice q3 n4 q4]) (.agg #[.int .i64 cx.h.f0, .int .i64 cx.h.f1, .int .i64 cx.h.f2, .int .i64 cx.h.f3, .int .i64 cx.h.f4, .int .i64 cx.h.f5, .int .i64 cx.h.pair, .int .i64 cx.h.pl, .slice p1 n1 p2, .int .i64 cx.h.fn, .int .i64 cx.h.fl, .slice p3 n2 p4]) k1 hk1 (HS.out.trans (HBL.out.then HBS.out)) (hw1.keep HBS.out) (by rw [if_neg HJM.out, HDX.out]; exact HVD.out.below HBS.out) (by rw [if_neg HJM.out, HCX.out]; exact HVC.out.below HBS.out))
          clear hw1 hk1
          go_wp2_with fail
          refine HC2.out.mono ?_
          rintro e' w2 ⟨⟨v, rfl, hv⟩, hst2, hk2⟩
          obtain ⟨fd, hfd⟩ : ∃ x, x = partF n c d m j := ⟨_, rfl⟩
          rw [← hfd] at hv
          obtain ⟨ra, rc, rb, rd, rfl, _, _⟩ := hv.form
          have hr := CoVN.raw (h := fd.h) hv
          obtain ⟨rn, hrn⟩ : ∃ n, n = fd.pairs.length := ⟨_, rfl⟩
          obtain ⟨rm, hrm⟩ : ∃ n, n = fd.funs.length := ⟨_, rfl⟩
          rw [← hrn, ← hrm] at hr ⊢
          have HFD := Lib.hid hfd
          clear hfd hrn hrm
          obtain ⟨L, hrow, hLL⟩ := HA.out
          have hrow1 := hrow.stay (Stay.of (N := (· = cw)) HBS.out) (fun b hb => by rw [hb]; have := HCW.out; have := HB.out.size; omega)
          have hrow2 := hrow1.stay hst2 (fun b hb => by rw [hb]; have := HCW.out; have := HB.out.size; omega)
          have HSW := HBS.out.size
          have hlg := hrow.lt
          have HR := Lib.hid (show RawCo w2 (BlkO W.heap.size g w2) ⟨fd.h, .slice ra rn rc, .slice rb rm rd⟩ fd from hr.mono (fun b hb => ⟨by have := HBL.out.size; have := hb.2; unfold Old at this; omega, hb.1, by have := hb.2; unfold Old at this; omega⟩) fun _ _ _ => rfl)
          obtain ⟨r', c0, c1, c2, c3, c4, c5, c6, c7, c8, c9, c10, c11, hfz⟩ := hrow2.get HKL.out
          have z0 := hfz (j * 12)
          have z1 := hfz (j * 12 + 1)
          have z2 := hfz (j * 12 + 2)
          have z3 := hfz (j * 12 + 3)
          have z4 := hfz (j * 12 + 4)
          have z5 := hfz (j * 12 + 5)
          have z6 := hfz (j * 12 + 6)
          have z7 := hfz (j * 12 + 7)
          have z8 := hfz (j * 12 + 8)
          have z9 := hfz (j * 12 + 9)
          have z10 := hfz (j * 12 + 10)
          have z11 := hfz (j * 12 + 11)
          have HROW2 := Lib.hid hrow2
          have HLL := Lib.hid hLL
          have HB2 := Lib.hid ((HBL.out.then HBS.out).trans hst2)
          have HN2 := Lib.hid hk2
          clear hst2 hk2 hr hv hrow hrow1 hrow2 hLL hfz hlg HSW HA
          go_wp2
          refine ⟨⟨j + 1, by have := HKL.out; omega, by go_num, ?_, ?_, ?_⟩, by have := HKL.out; simp [intOf]; omega⟩
          · have hset := RowO.set (r := ⟨fd.h, .slice ra rn rc, .slice rb rm rd⟩) (c := fd) HROW2.out HKL.out HR.out
            refine Lib.hid ⟨L.set j fd, hset, fun i hi => ?_⟩
            have hLn := HROW2.out.1
            by_cases e : i = j
            · rw [e, ← HFD.out]; simp [List.getD_eq_getElem?_getD, hLn, HKL.out]
            · rw [← HLL.out i (by omega)]; simp [List.getD_eq_getElem?_getD, Ne.symm e]
          · exact Lib.hid (Stay.setA (o := j * 12) (r := ⟨fd.h, .slice ra rn rc, .slice rb rm rd⟩) HB2.out (by rw [HGE.out]; exact Nat.le_refl _))
          · refine Lib.hid ?_
            obtain ⟨k', h1, h2⟩ := HN2.out
            exact ⟨k', h1, show WalkC M cw k' (setA w2 g (j * 12) ⟨fd.h, .slice ra rn rc, .slice rb rm rd⟩) from VarIs.setA (o := j * 12) (r := ⟨fd.h, .slice ra rn rc, .slice rb rm rd⟩) h2 (by rw [HGE.out]; have := HCW.out; have := HB.out.size; omega)⟩
    · have hlt : ¬ (j : Int) < nf := by omega
      have hjn : j = nf := by omega
      have HJ := Lib.hid hjn
      clear hgo hj hjn
      go_wp2
      refine bodyPost_ret (v := .tuple #[.int .i64 2, .int .i64 0, .slice (some ⟨g, 0, none⟩) nf nf]) ?_ ?_ ?_
      · simp [results, Tryd.results89, go_sem]
      · rfl
      · obtain ⟨L, hrow, hLL⟩ := HA.out
        obtain ⟨k1, hk1, hw1⟩ := HT.out
        refine ⟨⟨_, by rw [HPX.out], ?_⟩, HS.out.trans HBL.out, k1, by have := HLS.out j (by rw [HJ.out, HNF.out]; exact Nat.le_refl _) (by rw [HJ.out, HMF.out]; exact Nat.le_refl _); omega, hw1⟩
        rw [HPX.out]
        have e : L = rowF n c d := rowF_eq n c d L m (by rw [← HNF.out]; exact HM.out) (by rw [hrow.1]; exact HM.out) (fun i hi => hLL i (by rw [HJ.out, HM.out]; exact hi))
        rw [← e]
        exact CoSN.mono hrow.done fun b _ h => Nat.lt_of_lt_of_le h HB.out.size
end Go.Proofs.YtlalnkabfigodaaDoor
