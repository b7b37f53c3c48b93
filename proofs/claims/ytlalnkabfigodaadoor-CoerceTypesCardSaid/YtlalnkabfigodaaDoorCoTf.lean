import Derived.Test.YtlalnkabfigodaaDoorCoGt
namespace Go.Proofs.YtlalnkabfigodaaDoor
open Go.RowKit

theorem boxAt_off12 {w : World} {g m : Nat} {a : Bool} {f p k : Int} {pv fv : Value} {r : RawC} (h : BoxAt w g a f p pv k fv) (hm : g ≠ m) : BoxAt (set12 w m r) g a f p pv k fv := (BoxAt.off7 (BoxAt.off7 (BoxAt.off7 (BoxAt.off7 (BoxAt.off7 (BoxAt.off7 (BoxAt.off7 (BoxAt.off7 (BoxAt.off7 (BoxAt.off7 (BoxAt.off7 (BoxAt.off7 h (m := m) (i := 0) (x := .int .i64 r.h.f0) hm) (m := m) (i := 1) (x := .int .i64 r.h.f1) hm) (m := m) (i := 2) (x := .int .i64 r.h.f2) hm) (m := m) (i := 3) (x := .int .i64 r.h.f3) hm) (m := m) (i := 4) (x := .int .i64 r.h.f4) hm) (m := m) (i := 5) (x := .int .i64 r.h.f5) hm) (m := m) (i := 6) (x := .int .i64 r.h.pair) hm) (m := m) (i := 7) (x := .int .i64 r.h.pl) hm) (m := m) (i := 8) (x := r.pv) hm) (m := m) (i := 9) (x := .int .i64 r.h.fn) hm) (m := m) (i := 10) (x := .int .i64 r.h.fl) hm) (m := m) (i := 11) (x := r.fv) hm)
theorem gop_any (M : Nat) (hM : M ≤ 2147483647) (n : Nat) (b : Bool) : GoOK b M n := by
  have key : ∀ n, GoOK true M n ∧ GoOK false M n := by
    intro n
    induction n with
    | zero => exact ⟨fun _ _ _ _ _ _ _ h => (by cases h), fun _ _ _ _ _ _ _ h => (by cases h)⟩
    | succ n ih => exact ⟨top_succ M n hM ih.1 ih.2, fromp_succ M n hM ih.1 ih.2⟩
  cases b
  · exact (key n).2
  · exact (key n).1

set_option maxRecDepth 100000 in
set_option maxHeartbeats 16000000 in
theorem top_p (n : Nat) (t : Ty) (l : Int) (vt : Value) (w : World) (hdp : deepF n t = true) (hn : n ≤ 100) (hsz : szT t ≤ 16000000) (hl : l ≠ 0) (ht : TyV w vt t) : Calls Tryd.prog 31 #[vt, .int .i64 l] w (FPost (goC n true t l) w) := by
  have hcall : ∀ (w1 : World) (cw : Nat), Below w.heap.size w w1 → w.heap.size ≤ cw → WalkC 16777216 cw 0 w1 → Calls Tryd.prog 60 #[.pointer (some ⟨cw, 0, none⟩), vt, .int .i64 l, .int .i64 0] w1 fun e w' => (∃ v, e = .returned v ∧ CoVN (Old w1.heap.size) w' v (goC n true t l)) ∧ Stay (· = cw) w1 w' := fun w1 cw hb hc hw => by
    refine Calls.mono (gop_any 16777216 (by omega) n true t vt w1 cw 0 0 l hdp (by omega) (by omega) hl hw (TyVN.later ht.n hb fun b h => .inr (by omega))) ?_
    rintro e w2 ⟨h1, h2, _⟩
    exact ⟨h1, h2⟩
  obtain ⟨x, hx⟩ : ∃ x, x = goC n true t l := ⟨_, rfl⟩
  rw [← hx] at hcall ⊢
  obtain ⟨pa, pc, fa, fc, rfl, hp, hf⟩ := ht.form
  obtain ⟨np, hnp⟩ : ∃ n, n = t.pairs.length := ⟨_, rfl⟩
  obtain ⟨nf, hnf⟩ : ∃ n, n = t.funs.length := ⟨_, rfl⟩
  rw [← hnp, ← hnf] at hcall ⊢
  obtain ⟨W, hW⟩ : ∃ W, W = (w.alloc (.cells #[.bool t.all, .int .i64 t.flat, .int .i64 t.pair, .slice pa np pc, .int .i64 t.fn, .slice fa nf fc] 47)).alloc (.cells #[.int .i64 0, .int .i64 0, .int .i64 0, .int .i64 0, .int .i64 0, .int .i64 0, .int .i64 0, .int .i64 0, .slice none 0 0, .int .i64 0, .int .i64 0, .slice none 0 0] 25) := ⟨_, rfl⟩
  have HB := Lib.hid (show Below w.heap.size w W by rw [hW]; exact ((Below.refl _ _).alloc (Nat.le_refl _) _).alloc (by simp) _)
  have HX := Lib.hid (show BoxAt W w.heap.size t.all t.flat t.pair (.slice pa np pc) t.fn (.slice fa nf fc) by rw [hW]; exact (BoxAt.made w _ _ _ _ _ _).keep ((Below.refl _ _).alloc (Nat.le_refl _) _))
  have HR := Lib.hid (show CBox W (w.heap.size + 1) 25 ⟨⟨0, 0, 0, 0, 0, 0, 0, 0, 0, 0⟩, .slice none 0 0, .slice none 0 0⟩ by rw [hW]; have := CBox.made (w.alloc (.cells #[.bool t.all, .int .i64 t.flat, .int .i64 t.pair, .slice pa np pc, .int .i64 t.fn, .slice fa nf fc] 47)) 25 ⟨⟨0, 0, 0, 0, 0, 0, 0, 0, 0, 0⟩, .slice none 0 0, .slice none 0 0⟩; simp only [alloc_hs7] at this; exact this)
  have HSZ := Lib.hid (show W.heap.size = w.heap.size + 2 by rw [hW]; simp)
  have HC := Lib.hid hcall
  have HW := Lib.hid hW
  have HBD := Lib.hid (show Below W.heap.size W W.drew from (Below.refl _ _).drew)
  clear hcall hW hsz hdp hn hl ht hp hf hnp hnf hx
  go_enter Tryd.func31, Tryd.ntmps31
  go_upto_region 1 with fail
  rw [← HW.out]
  clear HW
  (try dsimp only [List.append])
  refine wp_region_noPanic ?_
  refine wp_region_held_drew (S := (fun w' => w'.cell? ⟨w.heap.size, 0, none⟩ = some (.bool t.all) ∧ w'.cell? ⟨w.heap.size, 1, none⟩ = some (.int .i64 t.flat) ∧ w'.cell? ⟨w.heap.size, 2, none⟩ = some (.int .i64 t.pair) ∧ w'.cell? ⟨w.heap.size, 3, none⟩ = some (.slice pa np pc) ∧ w'.cell? ⟨w.heap.size, 4, none⟩ = some (.int .i64 t.fn) ∧ w'.cell? ⟨w.heap.size, 5, none⟩ = some (.slice fa nf fc))) (by kernel_rfl) (by (try dsimp only); exact ⟨(HX.out.keep HBD.out).c0, (HX.out.keep HBD.out).c1, (HX.out.keep HBD.out).c2, (HX.out.keep HBD.out).c3, (HX.out.keep HBD.out).c4, (HX.out.keep HBD.out).c5⟩) (fun hHeld => ?_)
  generalize W.drew = wd at hHeld HBD ⊢
  refine' tk_any 1 6 (v := _) ?hi90001 ?hd90001 (by kernel_rfl) (by kernel_rfl) (by kernel_rfl) (fun _ _ _ h => h) ?hy90001 hHeld ?hr90001
  case hi90001 => (simp only [List.getElem?_toArray, List.getElem?_cons_succ, List.getElem?_cons_zero]; rfl)
  case hd90001 => rfl
  case hy90001 =>
    refine' Or.inl ⟨?hw90001, ?hx90001⟩
    case hw90001 => rfl
    case hx90001 => (intro w hSw; (try dsimp only at hSw); go_simp; (try with_reducible rfl))
  (try simp only [Act.put, List.setIfInBounds_toArray, List.set_cons_zero, List.set_cons_succ])
  refine' tk_any 2 7 (v := _) ?hi90002 ?hd90002 (by kernel_rfl) (by kernel_rfl) (by kernel_rfl) (fun _ _ _ h => h) ?hy90002 hHeld ?hr90002
  case hi90002 => (simp only [List.getElem?_toArray, List.getElem?_cons_succ, List.getElem?_cons_zero]; rfl)
  case hd90002 => rfl
  case hy90002 =>
    refine' Or.inl ⟨?hw90002, ?hx90002⟩
    case hw90002 => rfl
    case hx90002 => (intro w hSw; (try dsimp only at hSw); go_simp; (try with_reducible rfl))
  (try simp only [Act.put, List.setIfInBounds_toArray, List.set_cons_zero, List.set_cons_succ])
  refine' tk_call 0 ?hi90003 (by kernel_rfl) ?hr90003
  case hi90003 => (simp only [List.getElem?_toArray, List.getElem?_cons_zero]; rfl)
  intro K hK
  go_simp
  go_at_call 59
  refine (newwalk_p wd).mono ?_
  rintro e w1 ⟨rfl, hb1, hw1⟩
  have HB1 := Lib.hid hb1
  have HW1 := Lib.hid hw1
  have HX1 := Lib.hid ((HX.out.keep HBD.out).keep hb1)
  clear hb1 hw1
  go_wp2_with fail
  clear hHeld
  refine hK.out _ _ (by (try dsimp only); exact ⟨HX1.out.c0, HX1.out.c1, HX1.out.c2, HX1.out.c3, HX1.out.c4, HX1.out.c5⟩) (fun hHeld => ?_)
  clear hK K
  (try simp only [Act.put, List.setIfInBounds_toArray, List.set_cons_zero, List.set_cons_succ])
  refine' tk_call 3 ?hi90004 (by kernel_rfl) ?hr90004
  case hi90004 => (simp only [List.getElem?_toArray, List.getElem?_cons_succ, List.getElem?_cons_zero]; rfl)
  intro K hK
  go_simp
  go_at_call 60
  refine (HC.out w1 wd.heap.size (HB.out.trans ((HBD.out.mono HB.out.size).trans (HB1.out.mono (Nat.le_trans HB.out.size HBD.out.size)))) (Nat.le_trans HB.out.size HBD.out.size) HW1.out).mono ?_
  rintro e w2 ⟨⟨v, rfl, hv⟩, hs2⟩
  obtain ⟨ra, rc, rb, rd, rfl, _, _⟩ := hv.form
  have HV := Lib.hid hv
  have HLT := Lib.hid (show w.heap.size + 1 < wd.heap.size by have := HSZ.out; have := HBD.out.size; omega)
  have HX2 := Lib.hid (HX1.out.stay hs2 (by have := HLT.out; omega))
  have HR2 := Lib.hid (((HR.out.keep HBD.out).keep HB1.out).stay hs2 (by have := HLT.out; omega))
  have HS2 := Lib.hid (show Below w.heap.size w w2 from (Stay.trans (N := (· = wd.heap.size)) (.of (HB.out.trans ((HBD.out.mono HB.out.size).trans (HB1.out.mono (Nat.le_trans HB.out.size HBD.out.size))))) hs2).below (Nat.le_refl _) (fun k hk => by have := HLT.out; omega))
  clear hv hs2
  go_wp2_with fail
  clear hHeld
  refine hK.out _ _ (by (try dsimp only); exact ⟨HX2.out.c0, HX2.out.c1, HX2.out.c2, HX2.out.c3, HX2.out.c4, HX2.out.c5⟩) (fun hHeld => ?_)
  clear hK K
  (try simp only [Act.put, List.setIfInBounds_toArray, List.set_cons_zero, List.set_cons_succ])
  have r0 : w2.cell? ⟨(w.heap.size + 1), 0, none⟩ = some (.int .i64 0) := HR2.out.c0
  have r1 : w2.cell? ⟨(w.heap.size + 1), 1, none⟩ = some (.int .i64 0) := HR2.out.c1
  have r2 : w2.cell? ⟨(w.heap.size + 1), 2, none⟩ = some (.int .i64 0) := HR2.out.c2
  have r3 : w2.cell? ⟨(w.heap.size + 1), 3, none⟩ = some (.int .i64 0) := HR2.out.c3
  have r4 : w2.cell? ⟨(w.heap.size + 1), 4, none⟩ = some (.int .i64 0) := HR2.out.c4
  have r5 : w2.cell? ⟨(w.heap.size + 1), 5, none⟩ = some (.int .i64 0) := HR2.out.c5
  have r6 : w2.cell? ⟨(w.heap.size + 1), 6, none⟩ = some (.int .i64 0) := HR2.out.c6
  have r7 : w2.cell? ⟨(w.heap.size + 1), 7, none⟩ = some (.int .i64 0) := HR2.out.c7
  have r8 : w2.cell? ⟨(w.heap.size + 1), 8, none⟩ = some (.slice none 0 0) := HR2.out.c8
  have r9 : w2.cell? ⟨(w.heap.size + 1), 9, none⟩ = some (.int .i64 0) := HR2.out.c9
  have r10 : w2.cell? ⟨(w.heap.size + 1), 10, none⟩ = some (.int .i64 0) := HR2.out.c10
  have r11 : w2.cell? ⟨(w.heap.size + 1), 11, none⟩ = some (.slice none 0 0) := HR2.out.c11
  have fr0 : w2.frozen? ⟨(w.heap.size + 1), 0, none⟩ = false := HR2.out.fr 0
  have fr1 : w2.frozen? ⟨(w.heap.size + 1), 1, none⟩ = false := HR2.out.fr 1
  have fr2 : w2.frozen? ⟨(w.heap.size + 1), 2, none⟩ = false := HR2.out.fr 2
  have fr3 : w2.frozen? ⟨(w.heap.size + 1), 3, none⟩ = false := HR2.out.fr 3
  have fr4 : w2.frozen? ⟨(w.heap.size + 1), 4, none⟩ = false := HR2.out.fr 4
  have fr5 : w2.frozen? ⟨(w.heap.size + 1), 5, none⟩ = false := HR2.out.fr 5
  have fr6 : w2.frozen? ⟨(w.heap.size + 1), 6, none⟩ = false := HR2.out.fr 6
  have fr7 : w2.frozen? ⟨(w.heap.size + 1), 7, none⟩ = false := HR2.out.fr 7
  have fr8 : w2.frozen? ⟨(w.heap.size + 1), 8, none⟩ = false := HR2.out.fr 8
  have fr9 : w2.frozen? ⟨(w.heap.size + 1), 9, none⟩ = false := HR2.out.fr 9
  have fr10 : w2.frozen? ⟨(w.heap.size + 1), 10, none⟩ = false := HR2.out.fr 10
  have fr11 : w2.frozen? ⟨(w.heap.size + 1), 11, none⟩ = false := HR2.out.fr 11
  refine' tk_call 4 ?hi90005 (by kernel_rfl) ?hr90005
  case hi90005 => (simp only [List.getElem?_toArray, List.getElem?_cons_succ, List.getElem?_cons_zero]; rfl)
  intro K hK
  go_simp
  have HX3 := Lib.hid (show BoxAt (set12 w2 (w.heap.size + 1) ⟨x.h, .slice ra x.pairs.length rc, .slice rb x.funs.length rd⟩) w.heap.size t.all t.flat t.pair (.slice pa np pc) t.fn (.slice fa nf fc) from boxAt_off12 HX2.out (by omega))
  clear hHeld
  refine hK.out _ _ (by (try dsimp only); exact ⟨HX3.out.c0, HX3.out.c1, HX3.out.c2, HX3.out.c3, HX3.out.c4, HX3.out.c5⟩) (fun hHeld => ?_)
  clear hK K
  (try simp only [Act.put, List.setIfInBounds_toArray, List.set_cons_zero, List.set_cons_succ])
  refine wpAnyH_done (by kernel_rfl) ?_ _
  refine NoPanic.normal ?_
  clear r0 fr0 r1 fr1 r2 fr2 r3 fr3 r4 fr4 r5 fr5 r6 fr6 r7 fr7 r8 fr8 r9 fr9 r10 fr10 r11 fr11
  go_wp2
  have HBF := Lib.hid (show CBox (set12 (w2) (w.heap.size + 1) ⟨x.h, .slice ra x.pairs.length rc, .slice rb x.funs.length rd⟩) (w.heap.size + 1) 25 ⟨x.h, .slice ra x.pairs.length rc, .slice rb x.funs.length rd⟩ from CBox.set12 (HR2.out))
  have HPOST := Lib.hid (show FPost x w (.returned (.agg #[.int .i64 x.h.f0, .int .i64 x.h.f1, .int .i64 x.h.f2, .int .i64 x.h.f3, .int .i64 x.h.f4, .int .i64 x.h.f5, .int .i64 x.h.pair, .int .i64 x.h.pl, .slice ra x.pairs.length rc, .int .i64 x.h.fn, .int .i64 x.h.fl, .slice rb x.funs.length rd])) (set12 (w2) (w.heap.size + 1) ⟨x.h, .slice ra x.pairs.length rc, .slice rb x.funs.length rd⟩) from FPost.cell (w1 := w1) HV.out (by omega) (by have := HLT.out; have := HB1.out.size; omega) HS2.out)
  change bodyPost _ _ _ _ _ (set12 (w2) (w.heap.size + 1) ⟨x.h, .slice ra x.pairs.length rc, .slice rb x.funs.length rd⟩)
  generalize set12 (w2) (w.heap.size + 1) ⟨x.h, .slice ra x.pairs.length rc, .slice rb x.funs.length rd⟩ = wf at HBF HPOST ⊢
  have z0 := HBF.out.c0; have z1 := HBF.out.c1; have z2 := HBF.out.c2; have z3 := HBF.out.c3; have z4 := HBF.out.c4; have z5 := HBF.out.c5; have z6 := HBF.out.c6; have z7 := HBF.out.c7; have z8 := HBF.out.c8; have z9 := HBF.out.c9; have z10 := HBF.out.c10; have z11 := HBF.out.c11
  clear HBF
  refine bodyPost_ret (v := .agg #[.int .i64 x.h.f0, .int .i64 x.h.f1, .int .i64 x.h.f2, .int .i64 x.h.f3, .int .i64 x.h.f4, .int .i64 x.h.f5, .int .i64 x.h.pair, .int .i64 x.h.pl, .slice ra x.pairs.length rc, .int .i64 x.h.fn, .int .i64 x.h.fl, .slice rb x.funs.length rd]) ?_ ?_ ?_
  · simp [results, Tryd.results31, go_sem, z0, z1, z2, z3, z4, z5, z6, z7, z8, z9, z10, z11]
  · rfl
  · exact HPOST.out

set_option maxRecDepth 100000 in
set_option maxHeartbeats 16000000 in
theorem fromp_p (n : Nat) (t : Ty) (l : Int) (vt : Value) (w : World) (hdp : deepF n t = true) (hn : n ≤ 100) (hsz : szT t ≤ 16000000) (hl : l ≠ 0) (ht : TyV w vt t) : Calls Tryd.prog 33 #[vt, .int .i64 l] w (FPost (goC n false t l) w) := by
  have hcall : ∀ (w1 : World) (cw : Nat), Below w.heap.size w w1 → w.heap.size ≤ cw → WalkC 16777216 cw 0 w1 → Calls Tryd.prog 62 #[.pointer (some ⟨cw, 0, none⟩), vt, .int .i64 l, .int .i64 0] w1 fun e w' => (∃ v, e = .returned v ∧ CoVN (Old w1.heap.size) w' v (goC n false t l)) ∧ Stay (· = cw) w1 w' := fun w1 cw hb hc hw => by
    refine Calls.mono (gop_any 16777216 (by omega) n false t vt w1 cw 0 0 l hdp (by omega) (by omega) hl hw (TyVN.later ht.n hb fun b h => .inr (by omega))) ?_
    rintro e w2 ⟨h1, h2, _⟩
    exact ⟨h1, h2⟩
  obtain ⟨x, hx⟩ : ∃ x, x = goC n false t l := ⟨_, rfl⟩
  rw [← hx] at hcall ⊢
  obtain ⟨pa, pc, fa, fc, rfl, hp, hf⟩ := ht.form
  obtain ⟨np, hnp⟩ : ∃ n, n = t.pairs.length := ⟨_, rfl⟩
  obtain ⟨nf, hnf⟩ : ∃ n, n = t.funs.length := ⟨_, rfl⟩
  rw [← hnp, ← hnf] at hcall ⊢
  obtain ⟨W, hW⟩ : ∃ W, W = (w.alloc (.cells #[.bool t.all, .int .i64 t.flat, .int .i64 t.pair, .slice pa np pc, .int .i64 t.fn, .slice fa nf fc] 47)).alloc (.cells #[.int .i64 0, .int .i64 0, .int .i64 0, .int .i64 0, .int .i64 0, .int .i64 0, .int .i64 0, .int .i64 0, .slice none 0 0, .int .i64 0, .int .i64 0, .slice none 0 0] 25) := ⟨_, rfl⟩
  have HB := Lib.hid (show Below w.heap.size w W by rw [hW]; exact ((Below.refl _ _).alloc (Nat.le_refl _) _).alloc (by simp) _)
  have HX := Lib.hid (show BoxAt W w.heap.size t.all t.flat t.pair (.slice pa np pc) t.fn (.slice fa nf fc) by rw [hW]; exact (BoxAt.made w _ _ _ _ _ _).keep ((Below.refl _ _).alloc (Nat.le_refl _) _))
  have HR := Lib.hid (show CBox W (w.heap.size + 1) 25 ⟨⟨0, 0, 0, 0, 0, 0, 0, 0, 0, 0⟩, .slice none 0 0, .slice none 0 0⟩ by rw [hW]; have := CBox.made (w.alloc (.cells #[.bool t.all, .int .i64 t.flat, .int .i64 t.pair, .slice pa np pc, .int .i64 t.fn, .slice fa nf fc] 47)) 25 ⟨⟨0, 0, 0, 0, 0, 0, 0, 0, 0, 0⟩, .slice none 0 0, .slice none 0 0⟩; simp only [alloc_hs7] at this; exact this)
  have HSZ := Lib.hid (show W.heap.size = w.heap.size + 2 by rw [hW]; simp)
  have HC := Lib.hid hcall
  have HW := Lib.hid hW
  have HBD := Lib.hid (show Below W.heap.size W W.drew from (Below.refl _ _).drew)
  clear hcall hW hsz hdp hn hl ht hp hf hnp hnf hx
  go_enter Tryd.func33, Tryd.ntmps33
  go_upto_region 1 with fail
  rw [← HW.out]
  clear HW
  (try dsimp only [List.append])
  refine wp_region_noPanic ?_
  refine wp_region_held_drew (S := (fun w' => w'.cell? ⟨w.heap.size, 0, none⟩ = some (.bool t.all) ∧ w'.cell? ⟨w.heap.size, 1, none⟩ = some (.int .i64 t.flat) ∧ w'.cell? ⟨w.heap.size, 2, none⟩ = some (.int .i64 t.pair) ∧ w'.cell? ⟨w.heap.size, 3, none⟩ = some (.slice pa np pc) ∧ w'.cell? ⟨w.heap.size, 4, none⟩ = some (.int .i64 t.fn) ∧ w'.cell? ⟨w.heap.size, 5, none⟩ = some (.slice fa nf fc))) (by kernel_rfl) (by (try dsimp only); exact ⟨(HX.out.keep HBD.out).c0, (HX.out.keep HBD.out).c1, (HX.out.keep HBD.out).c2, (HX.out.keep HBD.out).c3, (HX.out.keep HBD.out).c4, (HX.out.keep HBD.out).c5⟩) (fun hHeld => ?_)
  generalize W.drew = wd at hHeld HBD ⊢
  refine' tk_any 1 6 (v := _) ?hi90006 ?hd90006 (by kernel_rfl) (by kernel_rfl) (by kernel_rfl) (fun _ _ _ h => h) ?hy90006 hHeld ?hr90006
  case hi90006 => (simp only [List.getElem?_toArray, List.getElem?_cons_succ, List.getElem?_cons_zero]; rfl)
  case hd90006 => rfl
  case hy90006 =>
    refine' Or.inl ⟨?hw90006, ?hx90006⟩
    case hw90006 => rfl
    case hx90006 => (intro w hSw; (try dsimp only at hSw); go_simp; (try with_reducible rfl))
  (try simp only [Act.put, List.setIfInBounds_toArray, List.set_cons_zero, List.set_cons_succ])
  refine' tk_any 2 7 (v := _) ?hi90007 ?hd90007 (by kernel_rfl) (by kernel_rfl) (by kernel_rfl) (fun _ _ _ h => h) ?hy90007 hHeld ?hr90007
  case hi90007 => (simp only [List.getElem?_toArray, List.getElem?_cons_succ, List.getElem?_cons_zero]; rfl)
  case hd90007 => rfl
  case hy90007 =>
    refine' Or.inl ⟨?hw90007, ?hx90007⟩
    case hw90007 => rfl
    case hx90007 => (intro w hSw; (try dsimp only at hSw); go_simp; (try with_reducible rfl))
  (try simp only [Act.put, List.setIfInBounds_toArray, List.set_cons_zero, List.set_cons_succ])
  refine' tk_call 0 ?hi90008 (by kernel_rfl) ?hr90008
  case hi90008 => (simp only [List.getElem?_toArray, List.getElem?_cons_zero]; rfl)
  intro K hK
  go_simp
  go_at_call 59
  refine (newwalk_p wd).mono ?_
  rintro e w1 ⟨rfl, hb1, hw1⟩
  have HB1 := Lib.hid hb1
  have HW1 := Lib.hid hw1
  have HX1 := Lib.hid ((HX.out.keep HBD.out).keep hb1)
  clear hb1 hw1
  go_wp2_with fail
  clear hHeld
  refine hK.out _ _ (by (try dsimp only); exact ⟨HX1.out.c0, HX1.out.c1, HX1.out.c2, HX1.out.c3, HX1.out.c4, HX1.out.c5⟩) (fun hHeld => ?_)
  clear hK K
  (try simp only [Act.put, List.setIfInBounds_toArray, List.set_cons_zero, List.set_cons_succ])
  refine' tk_call 3 ?hi90009 (by kernel_rfl) ?hr90009
  case hi90009 => (simp only [List.getElem?_toArray, List.getElem?_cons_succ, List.getElem?_cons_zero]; rfl)
  intro K hK
  go_simp
  go_at_call 62
  refine (HC.out w1 wd.heap.size (HB.out.trans ((HBD.out.mono HB.out.size).trans (HB1.out.mono (Nat.le_trans HB.out.size HBD.out.size)))) (Nat.le_trans HB.out.size HBD.out.size) HW1.out).mono ?_
  rintro e w2 ⟨⟨v, rfl, hv⟩, hs2⟩
  obtain ⟨ra, rc, rb, rd, rfl, _, _⟩ := hv.form
  have HV := Lib.hid hv
  have HLT := Lib.hid (show w.heap.size + 1 < wd.heap.size by have := HSZ.out; have := HBD.out.size; omega)
  have HX2 := Lib.hid (HX1.out.stay hs2 (by have := HLT.out; omega))
  have HR2 := Lib.hid (((HR.out.keep HBD.out).keep HB1.out).stay hs2 (by have := HLT.out; omega))
  have HS2 := Lib.hid (show Below w.heap.size w w2 from (Stay.trans (N := (· = wd.heap.size)) (.of (HB.out.trans ((HBD.out.mono HB.out.size).trans (HB1.out.mono (Nat.le_trans HB.out.size HBD.out.size))))) hs2).below (Nat.le_refl _) (fun k hk => by have := HLT.out; omega))
  clear hv hs2
  go_wp2_with fail
  clear hHeld
  refine hK.out _ _ (by (try dsimp only); exact ⟨HX2.out.c0, HX2.out.c1, HX2.out.c2, HX2.out.c3, HX2.out.c4, HX2.out.c5⟩) (fun hHeld => ?_)
  clear hK K
  (try simp only [Act.put, List.setIfInBounds_toArray, List.set_cons_zero, List.set_cons_succ])
  have r0 : w2.cell? ⟨(w.heap.size + 1), 0, none⟩ = some (.int .i64 0) := HR2.out.c0
  have r1 : w2.cell? ⟨(w.heap.size + 1), 1, none⟩ = some (.int .i64 0) := HR2.out.c1
  have r2 : w2.cell? ⟨(w.heap.size + 1), 2, none⟩ = some (.int .i64 0) := HR2.out.c2
  have r3 : w2.cell? ⟨(w.heap.size + 1), 3, none⟩ = some (.int .i64 0) := HR2.out.c3
  have r4 : w2.cell? ⟨(w.heap.size + 1), 4, none⟩ = some (.int .i64 0) := HR2.out.c4
  have r5 : w2.cell? ⟨(w.heap.size + 1), 5, none⟩ = some (.int .i64 0) := HR2.out.c5
  have r6 : w2.cell? ⟨(w.heap.size + 1), 6, none⟩ = some (.int .i64 0) := HR2.out.c6
  have r7 : w2.cell? ⟨(w.heap.size + 1), 7, none⟩ = some (.int .i64 0) := HR2.out.c7
  have r8 : w2.cell? ⟨(w.heap.size + 1), 8, none⟩ = some (.slice none 0 0) := HR2.out.c8
  have r9 : w2.cell? ⟨(w.heap.size + 1), 9, none⟩ = some (.int .i64 0) := HR2.out.c9
  have r10 : w2.cell? ⟨(w.heap.size + 1), 10, none⟩ = some (.int .i64 0) := HR2.out.c10
  have r11 : w2.cell? ⟨(w.heap.size + 1), 11, none⟩ = some (.slice none 0 0) := HR2.out.c11
  have fr0 : w2.frozen? ⟨(w.heap.size + 1), 0, none⟩ = false := HR2.out.fr 0
  have fr1 : w2.frozen? ⟨(w.heap.size + 1), 1, none⟩ = false := HR2.out.fr 1
  have fr2 : w2.frozen? ⟨(w.heap.size + 1), 2, none⟩ = false := HR2.out.fr 2
  have fr3 : w2.frozen? ⟨(w.heap.size + 1), 3, none⟩ = false := HR2.out.fr 3
  have fr4 : w2.frozen? ⟨(w.heap.size + 1), 4, none⟩ = false := HR2.out.fr 4
  have fr5 : w2.frozen? ⟨(w.heap.size + 1), 5, none⟩ = false := HR2.out.fr 5
  have fr6 : w2.frozen? ⟨(w.heap.size + 1), 6, none⟩ = false := HR2.out.fr 6
  have fr7 : w2.frozen? ⟨(w.heap.size + 1), 7, none⟩ = false := HR2.out.fr 7
  have fr8 : w2.frozen? ⟨(w.heap.size + 1), 8, none⟩ = false := HR2.out.fr 8
  have fr9 : w2.frozen? ⟨(w.heap.size + 1), 9, none⟩ = false := HR2.out.fr 9
  have fr10 : w2.frozen? ⟨(w.heap.size + 1), 10, none⟩ = false := HR2.out.fr 10
  have fr11 : w2.frozen? ⟨(w.heap.size + 1), 11, none⟩ = false := HR2.out.fr 11
  refine' tk_call 4 ?hi90010 (by kernel_rfl) ?hr90010
  case hi90010 => (simp only [List.getElem?_toArray, List.getElem?_cons_succ, List.getElem?_cons_zero]; rfl)
  intro K hK
  go_simp
  have HX3 := Lib.hid (show BoxAt (set12 w2 (w.heap.size + 1) ⟨x.h, .slice ra x.pairs.length rc, .slice rb x.funs.length rd⟩) w.heap.size t.all t.flat t.pair (.slice pa np pc) t.fn (.slice fa nf fc) from boxAt_off12 HX2.out (by omega))
  clear hHeld
  refine hK.out _ _ (by (try dsimp only); exact ⟨HX3.out.c0, HX3.out.c1, HX3.out.c2, HX3.out.c3, HX3.out.c4, HX3.out.c5⟩) (fun hHeld => ?_)
  clear hK K
  (try simp only [Act.put, List.setIfInBounds_toArray, List.set_cons_zero, List.set_cons_succ])
  refine wpAnyH_done (by kernel_rfl) ?_ _
  refine NoPanic.normal ?_
  clear r0 fr0 r1 fr1 r2 fr2 r3 fr3 r4 fr4 r5 fr5 r6 fr6 r7 fr7 r8 fr8 r9 fr9 r10 fr10 r11 fr11
  go_wp2
  have HBF := Lib.hid (show CBox (set12 (w2) (w.heap.size + 1) ⟨x.h, .slice ra x.pairs.length rc, .slice rb x.funs.length rd⟩) (w.heap.size + 1) 25 ⟨x.h, .slice ra x.pairs.length rc, .slice rb x.funs.length rd⟩ from CBox.set12 (HR2.out))
  have HPOST := Lib.hid (show FPost x w (.returned (.agg #[.int .i64 x.h.f0, .int .i64 x.h.f1, .int .i64 x.h.f2, .int .i64 x.h.f3, .int .i64 x.h.f4, .int .i64 x.h.f5, .int .i64 x.h.pair, .int .i64 x.h.pl, .slice ra x.pairs.length rc, .int .i64 x.h.fn, .int .i64 x.h.fl, .slice rb x.funs.length rd])) (set12 (w2) (w.heap.size + 1) ⟨x.h, .slice ra x.pairs.length rc, .slice rb x.funs.length rd⟩) from FPost.cell (w1 := w1) HV.out (by omega) (by have := HLT.out; have := HB1.out.size; omega) HS2.out)
  change bodyPost _ _ _ _ _ (set12 (w2) (w.heap.size + 1) ⟨x.h, .slice ra x.pairs.length rc, .slice rb x.funs.length rd⟩)
  generalize set12 (w2) (w.heap.size + 1) ⟨x.h, .slice ra x.pairs.length rc, .slice rb x.funs.length rd⟩ = wf at HBF HPOST ⊢
  have z0 := HBF.out.c0; have z1 := HBF.out.c1; have z2 := HBF.out.c2; have z3 := HBF.out.c3; have z4 := HBF.out.c4; have z5 := HBF.out.c5; have z6 := HBF.out.c6; have z7 := HBF.out.c7; have z8 := HBF.out.c8; have z9 := HBF.out.c9; have z10 := HBF.out.c10; have z11 := HBF.out.c11
  clear HBF
  refine bodyPost_ret (v := .agg #[.int .i64 x.h.f0, .int .i64 x.h.f1, .int .i64 x.h.f2, .int .i64 x.h.f3, .int .i64 x.h.f4, .int .i64 x.h.f5, .int .i64 x.h.pair, .int .i64 x.h.pl, .slice ra x.pairs.length rc, .int .i64 x.h.fn, .int .i64 x.h.fl, .slice rb x.funs.length rd]) ?_ ?_ ?_
  · simp [results, Tryd.results33, go_sem, z0, z1, z2, z3, z4, z5, z6, z7, z8, z9, z10, z11]
  · rfl
  · exact HPOST.out
end Go.Proofs.YtlalnkabfigodaaDoor
