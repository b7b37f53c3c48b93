import Derived.Test.YtlalnkabfigodaaDoorCoLs
import Derived.Test.YtlalnkabfigodaaDoorCoF
import Derived.Test.YtlalnkabfigodaaDoorTyA
namespace Go.Proofs.YtlalnkabfigodaaDoor
open Go.Lib (hid)
open Go.RowKit

def GoR (N : Nat → Prop) (T : TypeId) (n : Nat) (b : Bool) (l : Int) (k : Nat) (W : World) (fs : List Ty) (lv iv : Value) (wr : World) : Prop :=
 ∃ (i : Nat) (a : Option Addr) (cp : Nat), i ≤ k ∧ lv = .slice a i cp ∧ iv = .int .i64 i ∧ Hid (RowC T N W.heap.size wr (.slice a i cp) ((List.range i).map fun j => goC n b (fs.getD j ty0) l)) ∧ Hid (Below W.heap.size W wr)
theorem CoS.two {N : Nat → Prop} {w : World} {b : Nat} {T : TypeId} {r s : RawC} {x y : Co} (h : w.heap[b]? = some (.cells #[.int .i64 r.h.f0, .int .i64 r.h.f1, .int .i64 r.h.f2, .int .i64 r.h.f3, .int .i64 r.h.f4, .int .i64 r.h.f5, .int .i64 r.h.pair, .int .i64 r.h.pl, r.pv, .int .i64 r.h.fn, .int .i64 r.h.fl, r.fv, .int .i64 s.h.f0, .int .i64 s.h.f1, .int .i64 s.h.f2, .int .i64 s.h.f3, .int .i64 s.h.f4, .int .i64 s.h.f5, .int .i64 s.h.pair, .int .i64 s.h.pl, s.pv, .int .i64 s.h.fn, .int .i64 s.h.fl, s.fv] T (0, 0))) (hN : ¬ N b) (hr : RawCo w (Lc N w) r x) (hs : RawCo w (Lc N w) s y) : CoS w (Lc N w) (.slice (some ⟨b, 0, none⟩) 2 2) [x, y] := by
 refine CoS.mk (l := [x, y]) (rs := [r, s]) ⟨(Array.getElem?_eq_some_iff.1 h).1, hN⟩ (by unfold maxLen; simp) (fun j hj i hi => ?_) ⟨rfl, fun j hj => ?_⟩ (Nat.le_refl _)
 ·
  obtain rfl | rfl : j = 0 ∨ j = 1 := by simp at hj; omega
  ·
   rw [Lib.cell_of_heap h]
   simp only [Nat.zero_mul, Nat.zero_add, List.getElem?_toArray]
   show _ = (coCells r)[i]?
   obtain rfl | rfl | rfl | rfl | rfl | rfl | rfl | rfl | rfl | rfl | rfl | rfl : i = 0 ∨ i = 1 ∨ i = 2 ∨ i = 3 ∨ i = 4 ∨ i = 5 ∨ i = 6 ∨ i = 7 ∨ i = 8 ∨ i = 9 ∨ i = 10 ∨ i = 11 := by omega
   all_goals rfl
  ·
   rw [Lib.cell_of_heap h]
   simp only [Nat.one_mul, Nat.zero_add, List.getElem?_toArray]
   show _ = (coCells s)[i]?
   obtain rfl | rfl | rfl | rfl | rfl | rfl | rfl | rfl | rfl | rfl | rfl | rfl : i = 0 ∨ i = 1 ∨ i = 2 ∨ i = 3 ∨ i = 4 ∨ i = 5 ∨ i = 6 ∨ i = 7 ∨ i = 8 ∨ i = 9 ∨ i = 10 ∨ i = 11 := by omega
   all_goals rfl
 ·
  obtain rfl | rfl : j = 0 ∨ j = 1 := by simp at hj; omega
  ·
   exact hr
  ·
   exact hs
def ToOK (n : Nat) : Prop := ∀ (t : Ty) (l : Int) (v : Value) (w : World) (N : Nat → Prop), deepF n t = true → (∀ b, N b → b < w.heap.size) → TyV w v t → Calls Tryd.prog 32 #[v, .int .i64 l] w (CoPost N (goC n true t l) w)
def FromOK (n : Nat) : Prop := ∀ (t : Ty) (l : Int) (v : Value) (w : World) (N : Nat → Prop), deepF n t = true → (∀ b, N b → b < w.heap.size) → TyV w v t → Calls Tryd.prog 34 #[v, .int .i64 l] w (CoPost N (goC n false t l) w)
set_option maxRecDepth 100000 in
set_option maxHeartbeats 64000000 in
theorem from_succ (n : Nat) (hto : ToOK n) (hfrom : FromOK n) : FromOK (n + 1) := by
 intro t l v w N hd hN hv
 obtain ⟨i0, hi, hz0, hz1, hz2⟩ := info_parts Tryd.infoCR
 have HTO := hid hto
 have HFR := hid hfrom
 rw [deepF_succ, Bool.and_eq_true, Bool.and_eq_true, List.all_eq_true, List.all_eq_true] at hd
 obtain ⟨⟨hh, hdp⟩, hdf⟩ := hd
 unfold headOK at hh
 rw [decide_eq_true_eq] at hh
 obtain ⟨_, _, kp0, kp1, kn0, kn1, _, kp, kf0, kf1⟩ := hh
 obtain ⟨pa, pc, fa, fc, rfl, hp, hf⟩ := hv.form
 obtain ⟨np, hnp⟩ : ∃ n, n = t.pairs.length := ⟨_, rfl⟩
 obtain ⟨nf, hnf⟩ : ∃ n, n = t.funs.length := ⟨_, rfl⟩
 rw [← hnp] at hp kp ⊢
 rw [← hnf] at hf kf1 ⊢
 obtain ⟨W, hW⟩ : ∃ W, W = ((w.alloc (.cells #[.bool t.all, .int .i64 t.flat, .int .i64 t.pair, .slice pa np pc, .int .i64 t.fn, .slice fa nf fc] 47)).alloc (.cells #[.int .i64 0, .int .i64 0, .int .i64 0, .int .i64 0, .int .i64 0, .int .i64 0, .int .i64 0, .int .i64 0, .slice none 0 0, .int .i64 0, .int .i64 0, .slice none 0 0] 30)).alloc (.cells #[.int .i64 0, .int .i64 0, .int .i64 0, .int .i64 0, .int .i64 0, .int .i64 0, .int .i64 0, .int .i64 0, .slice none 0 0, .int .i64 0, .int .i64 0, .slice none 0 0] 30) := ⟨_, rfl⟩
 have HX := hid (show BoxAt W w.heap.size t.all t.flat t.pair (.slice pa np pc) t.fn (.slice fa nf fc) by rw [hW]; exact ((BoxAt.made _ _ _ _ _ _ _).keep (bAl _ _)).keep (bAl _ _))
 have HR := hid (show CBox W (w.heap.size + 1) 30 ⟨⟨0, 0, 0, 0, 0, 0, 0, 0, 0, 0⟩, .slice none 0 0, .slice none 0 0⟩ by rw [hW]; have h := (CBox.made (w.alloc (.cells #[.bool t.all, .int .i64 t.flat, .int .i64 t.pair, .slice pa np pc, .int .i64 t.fn, .slice fa nf fc] 47)) 30 ⟨⟨0, 0, 0, 0, 0, 0, 0, 0, 0, 0⟩, .slice none 0 0, .slice none 0 0⟩).keep ((Below.refl _ _).alloc (Nat.le_refl _) (.cells #[.int .i64 0, .int .i64 0, .int .i64 0, .int .i64 0, .int .i64 0, .int .i64 0, .int .i64 0, .int .i64 0, .slice none 0 0, .int .i64 0, .int .i64 0, .slice none 0 0] 30)); simpa using h)
 have HO := hid (show CBox W (w.heap.size + 1 + 1) 30 ⟨⟨0, 0, 0, 0, 0, 0, 0, 0, 0, 0⟩, .slice none 0 0, .slice none 0 0⟩ by rw [hW]; have h := CBox.made ((w.alloc (.cells #[.bool t.all, .int .i64 t.flat, .int .i64 t.pair, .slice pa np pc, .int .i64 t.fn, .slice fa nf fc] 47)).alloc (.cells #[.int .i64 0, .int .i64 0, .int .i64 0, .int .i64 0, .int .i64 0, .int .i64 0, .int .i64 0, .int .i64 0, .slice none 0 0, .int .i64 0, .int .i64 0, .slice none 0 0] 30)) 30 ⟨⟨0, 0, 0, 0, 0, 0, 0, 0, 0, 0⟩, .slice none 0 0, .slice none 0 0⟩; simpa using h)
 have HL := hid (show Below w.heap.size w W by rw [hW]; exact ((bAl _ _).alloc (by simp) _).alloc (by simp <;> omega) _)
 have hsz : W.heap.size = w.heap.size + 1 + 1 + 1 := by rw [hW]; simp
 have HNB1 := hid (show ∀ b, (fun x => (N x ∨ x = w.heap.size + 1) ∨ x = w.heap.size + 1 + 1) b → b < W.heap.size from fun b h => by
  rcases h with (h | h) | h
  ·
   have := hN b h; omega
  ·
   omega
  ·
   omega)
 have HSW := hid (Nat.le_refl W.heap.size)
 have HP := hid (hp.under HL.out)
 have HF := hid (hf.under HL.out)
 have HPN := hid hnp
 have HFN := hid hnf
 have HDP := hid hdp
 have HDF := hid hdf
 have HKP := hid kp
 have HF0 := hid hf
 have HKF := hid kf1
 have HW := hid hW
 have HRES0 := hid (show goC (n + 1) false t l = goC (n + 1) false t l from rfl)
 clear hp hf hnp hnf hW hsz hN hv hdp hdf kp kf0 kf1 hto hfrom
 have x2 : W.cell? ⟨w.heap.size, 2, none⟩ = some (.int .i64 t.pair) := HX.out.c2
 have x3 : W.cell? ⟨w.heap.size, 3, none⟩ = some (.slice pa np pc) := HX.out.c3
 go_enter Tryd.func34, Tryd.ntmps34
 go_upto_region 2 with fail
 rw [← HW.out]
 clear HW
 go_upto_region 2 with fail
 go_cut [14] from 12 to 14 (fun cc wx => ∃ zz : Bool, cc = .bool zz ∧ Hid (zz = decide (t.pair = 1)) ∧ W = wx)
 case first =>
  by_cases hz : t.pair = 1
  case neg =>
   have bz : (t.pair == 1) = false := beq_false_of_ne hz
   have HZ := hid hz
   clear hz
   go_wp2
   go_meet
   case rel => exact ⟨false, rfl, hid (decide_eq_false HZ.out).symm, rfl⟩
  have bz : (t.pair == 1) = true := by simp [hz]
  have HZ := hid hz
  clear hz
  go_wp2
  go_meet
  case rel => exact ⟨true, rfl, hid (decide_eq_true HZ.out).symm, rfl⟩
 case rest =>
  obtain ⟨zt, rfl, Hzt, rfl⟩ := hcut
  go_upto_if 14 with fail
  go_cut [] from 14 to 33 (fun wx => Hid (t.pair = 1 → ∃ (hd : Hd) (PS : List Co) (pb : Option Addr) (pn pk : Nat), Hid ((⟨hd.f0, hd.f1, hd.f2, hd.f3, hd.f4, hd.f5, hd.pair, hd.pl, 0, 0⟩ : Hd) = hd ∧ (⟨hd.f0, hd.f1, hd.f2, hd.f3, hd.f4, hd.f5, hd.pair, hd.pl, 2, 0⟩ : Hd) = ⟨hd.f0, hd.f1, hd.f2, hd.f3, hd.f4, hd.f5, hd.pair, hd.pl, 2, hd.fl⟩) ∧ Hid (goC (n + 1) false t l = .mk ⟨hd.f0, hd.f1, hd.f2, hd.f3, hd.f4, hd.f5, hd.pair, hd.pl, if t.fn = 1 then (if allC (((List.range (t.funs.length - 1)).map fun i => goC n true (t.funs.getD i ty0) l) ++ [goC n false (t.funs.getD (t.funs.length - 1) ty0) l]) = true then 0 else 2) else 0, 0⟩ PS (if t.fn = 1 then (if allC (((List.range (t.funs.length - 1)).map fun i => goC n true (t.funs.getD i ty0) l) ++ [goC n false (t.funs.getD (t.funs.length - 1) ty0) l]) = true then [] else ((List.range (t.funs.length - 1)).map fun i => goC n true (t.funs.getD i ty0) l) ++ [goC n false (t.funs.getD (t.funs.length - 1) ty0) l]) else [])) ∧ Hid (CBox wx (w.heap.size + 1 + 1) 30 ⟨hd, .slice pb pn pk, .slice none 0 0⟩) ∧ Hid (CoS wx (Lc (fun x => (N x ∨ x = w.heap.size + 1) ∨ x = w.heap.size + 1 + 1) wx) (.slice pb pn pk) PS) ∧ Hid (BoxAt wx w.heap.size t.all t.flat t.pair (.slice pa np pc) t.fn (.slice fa nf fc)) ∧ Hid (CBox wx (w.heap.size + 1) 30 ⟨⟨0, 0, 0, 0, 0, 0, 0, 0, 0, 0⟩, .slice none 0 0, .slice none 0 0⟩) ∧ Hid (Below w.heap.size w wx) ∧ Hid (W.heap.size ≤ wx.heap.size)) ∧ (t.pair ≠ 1 → W = wx) ∧ Hid (BoxAt wx w.heap.size t.all t.flat t.pair (.slice pa np pc) t.fn (.slice fa nf fc)))
  case first =>
   cases zt with
   | false =>
    have HPP := hid (show ¬ t.pair = 1 from of_decide_eq_false Hzt.out.symm)
    clear Hzt
    go_wp2
    go_meet
    case rel => exact ⟨hid fun h => absurd h HPP.out, fun _ => rfl, HX⟩
   | true =>
    have hp1 : t.pair = 1 := of_decide_eq_true Hzt.out.symm
    clear Hzt
    have hp0 : ¬ t.pair = 0 := by omega
    have bp1 : (t.pair == 1) = true := by simp [hp1]
    have bp2 : (t.pair == 2) = false := by simp [hp1]
    have hnp2 := HKP.out
    rw [if_pos hp1] at hnp2
    have hj0 : 0 < t.pairs.length := by rw [← HPN.out]; omega
    have hj1 : 1 < t.pairs.length := by rw [← HPN.out]; omega
    have hn0i : (0 : Int) < (np : Int) := by omega
    have hn1i : (1 : Int) < (np : Int) := by omega
    have hn0n : 0 < np := by omega
    have hn1n : 1 < np := by omega
    obtain ⟨x0, hx0⟩ : ∃ x, t.pairs.getD 0 ty0 = x := ⟨_, rfl⟩
    obtain ⟨x1, hx1⟩ : ∃ x, t.pairs.getD 1 ty0 = x := ⟨_, rfl⟩
    obtain ⟨b, off, p1, c1, p2, c2, rfl, hb, e0, e1, e2, e3, e4, e5, hv0⟩ := TyS.elem HP.out hj0 hx0
    obtain ⟨b', off', p1', c1', p2', c2', hpa, hb', g0, g1, g2, g3, g4, g5, hv1⟩ := TyS.elem HP.out hj1 hx1
    cases hpa
    simp only [Nat.zero_mul, Nat.add_zero] at e0 e1 e2 e3 e4 e5
    simp only [Nat.one_mul, Nat.add_assoc, Nat.reduceAdd] at g0 g1 g2 g3 g4 g5
    have HDX0 := hid (show deepF n x0 = true by rw [← hx0]; exact HDP.out _ (getT_mem hj0))
    have HDX1 := hid (show deepF n x1 = true by rw [← hx1]; exact HDP.out _ (getT_mem hj1))
    have HV0 := hid hv0
    have HV1 := hid hv1
    obtain ⟨d0, hd0'⟩ : ∃ d, d = goC n false x0 l := ⟨_, rfl⟩
    obtain ⟨d1, hd1'⟩ : ∃ d, d = goC n false x1 l := ⟨_, rfl⟩
    have HD0 := hid hd0'
    have HD1 := hid hd1'
    have HTP := hid (show t.pairs.map (fun x => goC n false x l) = [d0, d1] by
     have hl : t.pairs.length = 2 := by rw [← HPN.out]; omega
     rw [hd0', hd1', ← hx0, ← hx1]
     match h : t.pairs, hl with
     | [y0, y1], _ => rfl)
    have HXL := hid HX.out.lt
    have HBL := hid hb
    have X3 : W.cell? ⟨w.heap.size, 3, none⟩ = some (.slice (some ⟨b, off, none⟩) np pc) := HX.out.c3
    have HPP := hid hp1
    clear hnp2 hj0 hj1 hx0 hx1 hv0 hv1 hb hb' hd0' hd1' hp1
    go_upto_region 3 with fail
    go_cut [6] from 15 to 27 (fun lv wx => ∃ bb : Nat, lv = .slice (some ⟨bb, 0, none⟩) 2 2 ∧ Hid (CoS wx (Lc (fun x => (N x ∨ x = w.heap.size + 1) ∨ x = w.heap.size + 1 + 1) wx) (.slice (some ⟨bb, 0, none⟩) 2 2) [d0, d1]) ∧ Hid (Below W.heap.size W wx))
    case first =>
     (try dsimp only [List.append])
     refine wp_region_noPanic ?_
     refine wp_region_held_drew (S := (fun w' => Below W.heap.size W w')) (by kernel_rfl) (by (try dsimp only); exact (Below.refl _ _).drew) (fun hHeld => ?_)
     have HB := hid (show Below W.heap.size W W.drew from (Below.refl _ _).drew)
     generalize W.drew = wd at hHeld HB ⊢
     refine' tk_q 0 15 hHeld ?hi0 ?hr0
     case hi0 => (refine ⟨_, rfl, rfl, rfl, fun wz hSw => ?_⟩; (try dsimp only at hSw); go_simp; (try with_reducible rfl))
     (try simp only [pq1, ls0, ls1])
     refine' tk_q 1 16 hHeld ?hi1 ?hr1
     case hi1 => (refine ⟨_, rfl, rfl, rfl, fun wz hSw => ?_⟩; (try dsimp only at hSw); have y3 := (Below.cell hSw (p := ⟨w.heap.size, 3, none⟩) HXL.out).trans X3; go_simp; (try with_reducible rfl))
     (try simp only [pq1, ls0, ls1])
     refine' tk_q 2 17 hHeld ?hi2 ?hr2
     case hi2 => (refine ⟨_, rfl, rfl, rfl, fun wz hSw => ?_⟩; (try dsimp only at hSw); go_simp; (try with_reducible rfl))
     (try simp only [pq1, ls0, ls1])
     refine' tk_q 3 18 hHeld ?hi3 ?hr3
     case hi3 => (refine ⟨_, rfl, rfl, rfl, fun wz hSw => ?_⟩; (try dsimp only at hSw); have a0 := (Below.cell hSw (p := ⟨b, _, none⟩) HBL.out).trans e0; have a1 := (Below.cell hSw (p := ⟨b, _, none⟩) HBL.out).trans e1; have a2 := (Below.cell hSw (p := ⟨b, _, none⟩) HBL.out).trans e2; have a3 := (Below.cell hSw (p := ⟨b, _, none⟩) HBL.out).trans e3; have a4 := (Below.cell hSw (p := ⟨b, _, none⟩) HBL.out).trans e4; have a5 := (Below.cell hSw (p := ⟨b, _, none⟩) HBL.out).trans e5; go_simp; (try with_reducible rfl))
     (try simp only [pq1, ls0, ls1])
     refine' tk_q 4 19 hHeld ?hi4 ?hr4
     case hi4 => (refine ⟨_, rfl, rfl, rfl, fun wz hSw => ?_⟩; (try dsimp only at hSw); go_simp; (try with_reducible rfl))
     (try simp only [pq1, ls0, ls1])
     refine' tk_q 6 21 hHeld ?hi5 ?hr5
     case hi5 => (refine ⟨_, rfl, rfl, rfl, fun wz hSw => ?_⟩; (try dsimp only at hSw); go_simp; (try with_reducible rfl))
     (try simp only [pq1, ls0, ls1])
     refine' tk_q 7 22 hHeld ?hi6 ?hr6
     case hi6 => (refine ⟨_, rfl, rfl, rfl, fun wz hSw => ?_⟩; (try dsimp only at hSw); have y3 := (Below.cell hSw (p := ⟨w.heap.size, 3, none⟩) HXL.out).trans X3; go_simp; (try with_reducible rfl))
     (try simp only [pq1, ls0, ls1])
     refine' tk_q 8 23 hHeld ?hi7 ?hr7
     case hi7 => (refine ⟨_, rfl, rfl, rfl, fun wz hSw => ?_⟩; (try dsimp only at hSw); go_simp; (try with_reducible rfl))
     (try simp only [pq1, ls0, ls1])
     refine' tk_q 9 24 hHeld ?hi8 ?hr8
     case hi8 => (refine ⟨_, rfl, rfl, rfl, fun wz hSw => ?_⟩; (try dsimp only at hSw); have b0 := (Below.cell hSw (p := ⟨b, _, none⟩) HBL.out).trans g0; have b1 := (Below.cell hSw (p := ⟨b, _, none⟩) HBL.out).trans g1; have b2 := (Below.cell hSw (p := ⟨b, _, none⟩) HBL.out).trans g2; have b3 := (Below.cell hSw (p := ⟨b, _, none⟩) HBL.out).trans g3; have b4 := (Below.cell hSw (p := ⟨b, _, none⟩) HBL.out).trans g4; have b5 := (Below.cell hSw (p := ⟨b, _, none⟩) HBL.out).trans g5; go_simp; (try with_reducible rfl))
     (try simp only [pq1, ls0, ls1])
     refine' tk_q 10 25 hHeld ?hi9 ?hr9
     case hi9 => (refine ⟨_, rfl, rfl, rfl, fun wz hSw => ?_⟩; (try dsimp only at hSw); go_simp; (try with_reducible rfl))
     (try simp only [pq1, ls0, ls1])
     refine' tk_call 5 ?hia (by kernel_rfl) ?hra
     case hia => rfl
     intro K hK
     go_simp
     go_at_call 34
     refine (HFR.out x0 l _ wd (fun x => (N x ∨ x = w.heap.size + 1) ∨ x = w.heap.size + 1 + 1) HDX0.out (fun y hy => Nat.lt_of_lt_of_le (HNB1.out y hy) HB.out.size) (HV0.out.below HB.out)).mono ?_
     rintro e wA ⟨⟨u, rfl, hu⟩, hb⟩
     rw [← HD0.out] at hu
     obtain ⟨q01, q02, q03, q04, rfl, _, _⟩ := hu.form
     have HU0 := hid hu
     replace HB := hid (HB.out.trans (hb.mono HB.out.size))
     clear hu hb
     go_wp2_with fail
     clear hHeld
     refine hK.out _ _ (by (try dsimp only); exact HB.out) (fun hHeld => ?_)
     clear hK K
     (try simp only [pq1, ls0, ls1])
     refine' tk_call 11 ?hib (by kernel_rfl) ?hrb
     case hib => rfl
     intro K hK
     go_simp
     go_at_call 34
     refine (HFR.out x1 l _ wA (fun x => (N x ∨ x = w.heap.size + 1) ∨ x = w.heap.size + 1 + 1) HDX1.out (fun y hy => Nat.lt_of_lt_of_le (HNB1.out y hy) HB.out.size) (HV1.out.below HB.out)).mono ?_
     rintro e wB ⟨⟨u, rfl, hu⟩, hb⟩
     rw [← HD1.out] at hu
     obtain ⟨q11, q12, q13, q14, rfl, _, _⟩ := hu.form
     have HU1 := hid hu
     replace HB := hid (HB.out.trans (hb.mono HB.out.size))
     replace HU0 := hid (HU0.out.below hb)
     clear hu hb
     go_wp2_with fail
     clear hHeld
     refine hK.out _ _ (by (try dsimp only); exact HB.out) (fun hHeld => ?_)
     clear hK K
     (try simp only [pq1, ls0, ls1])
     refine' tk_call 12 ?hic (by kernel_rfl) ?hrc
     case hic => rfl
     intro K hK
     go_simp
     obtain ⟨w3, hw3⟩ : ∃ x, x = wB.alloc (.cells #[.int .i64 d0.h.f0, .int .i64 d0.h.f1, .int .i64 d0.h.f2, .int .i64 d0.h.f3, .int .i64 d0.h.f4, .int .i64 d0.h.f5, .int .i64 d0.h.pair, .int .i64 d0.h.pl, .slice q01 d0.pairs.length q02, .int .i64 d0.h.fn, .int .i64 d0.h.fl, .slice q03 d0.funs.length q04, .int .i64 d1.h.f0, .int .i64 d1.h.f1, .int .i64 d1.h.f2, .int .i64 d1.h.f3, .int .i64 d1.h.f4, .int .i64 d1.h.f5, .int .i64 d1.h.pair, .int .i64 d1.h.pl, .slice q11 d1.pairs.length q12, .int .i64 d1.h.fn, .int .i64 d1.h.fl, .slice q13 d1.funs.length q14] 30) := ⟨_, rfl⟩
     rw [← hw3]
     have hb3 : Below wB.heap.size wB w3 := by rw [hw3]; exact bAl _ _
     have hnew : w3.heap[wB.heap.size]? = some (.cells #[.int .i64 d0.h.f0, .int .i64 d0.h.f1, .int .i64 d0.h.f2, .int .i64 d0.h.f3, .int .i64 d0.h.f4, .int .i64 d0.h.f5, .int .i64 d0.h.pair, .int .i64 d0.h.pl, .slice q01 d0.pairs.length q02, .int .i64 d0.h.fn, .int .i64 d0.h.fl, .slice q03 d0.funs.length q04, .int .i64 d1.h.f0, .int .i64 d1.h.f1, .int .i64 d1.h.f2, .int .i64 d1.h.f3, .int .i64 d1.h.f4, .int .i64 d1.h.f5, .int .i64 d1.h.pair, .int .i64 d1.h.pl, .slice q11 d1.pairs.length q12, .int .i64 d1.h.fn, .int .i64 d1.h.fl, .slice q13 d1.funs.length q14] 30 (0, 0)) := by rw [hw3]; exact heap_alloc_new _ _
     have hcos : CoS w3 (Lc (fun x => (N x ∨ x = w.heap.size + 1) ∨ x = w.heap.size + 1 + 1) w3) (.slice (some ⟨wB.heap.size, 0, none⟩) 2 2) [d0, d1] := CoS.two (r := ⟨d0.h, .slice q01 d0.pairs.length q02, .slice q03 d0.funs.length q04⟩) (s := ⟨d1.h, .slice q11 d1.pairs.length q12, .slice q13 d1.funs.length q14⟩) hnew (fun hh => by have h1 := HNB1.out _ hh; have h2 := HB.out.size; omega) (HU0.out.below hb3).raw (HU1.out.below hb3).raw
     have HCS := hid hcos
     have HBN := HB
     replace HB := hid (HB.out.trans (hb3.mono HB.out.size))
     clear hb3 hnew hcos hw3
     clear hHeld
     refine hK.out _ _ (by (try dsimp only); exact HB.out) (fun hHeld => ?_)
     clear hK K
     (try simp only [pq1, ls0, ls1])
     refine' tk_q 13 6 hHeld ?hid ?hrd
     case hid => (refine ⟨_, rfl, rfl, rfl, fun w hSw => ?_⟩; (try dsimp only at hSw); go_simp; (try with_reducible rfl))
     (try simp only [pq1, ls0, ls1])
     refine wpAnyH_done (by kernel_rfl) ?_ _
     refine NoPanic.normal ?_
     go_wp2
     go_meet
     case rel => exact ⟨wB.heap.size, rfl, HCS, HB⟩
    case rest =>
     obtain ⟨bb, rfl, HCS, HB⟩ := hcut
     obtain ⟨W1, rfl⟩ : ∃ x, x = wc := ⟨_, rfl⟩
     have hB := HB.out
     replace HX := hid (HX.out.keep hB)
     replace HO := hid (HO.out.keep hB)
     replace HR := hid (HR.out.keep hB)
     replace HF := hid (HF.out.under hB)
     replace HL := hid (HL.out.trans (hB.mono HL.out.size))
     replace HSW := hid (Nat.le_trans HSW.out hB.size)
     clear hB HB x2 x3 X3 e0 g0 e1 g1 e2 g2 e3 g3 e4 g4 e5 g5
     have x2 : W1.cell? ⟨w.heap.size, 2, none⟩ = some (.int .i64 t.pair) := HX.out.c2
     have HAL := hid (rall_go [d0, d1] (some ⟨bb, 0, none⟩) 2 2 W1 rfl (CoSN.mono HCS.out fun _ _ h => h.elim))
     go_wp2_with fail
     refine HAL.out.mono ?_
     rintro e W2 ⟨rfl, hB⟩
     replace HX := hid (HX.out.keep hB)
     replace HO := hid (HO.out.keep hB)
     replace HR := hid (HR.out.keep hB)
     replace HF := hid (HF.out.under hB)
     replace HL := hid (HL.out.trans (hB.mono HL.out.size))
     replace HSW := hid (Nat.le_trans HSW.out hB.size)
     replace HCS := hid (CoSN.below HCS.out hB)
     obtain ⟨A, hA⟩ : ∃ A, A = allC [d0, d1] := ⟨_, rfl⟩
     rw [← hA]
     have HA := hid hA
     clear hA hB HAL x2
     cases A with
     | true =>
      have x2 : W2.cell? ⟨w.heap.size, 2, none⟩ = some (.int .i64 t.pair) := HX.out.c2
      obtain ⟨hd, hhd⟩ : ∃ hd : Hd, hd = hd0 := ⟨_, rfl⟩
      obtain ⟨PS, hPS⟩ : ∃ PS : List Co, PS = [] := ⟨_, rfl⟩
      have HHD := hid (show (⟨hd.f0, hd.f1, hd.f2, hd.f3, hd.f4, hd.f5, hd.pair, hd.pl, 0, 0⟩ : Hd) = hd ∧ (⟨hd.f0, hd.f1, hd.f2, hd.f3, hd.f4, hd.f5, hd.pair, hd.pl, 2, 0⟩ : Hd) = ⟨hd.f0, hd.f1, hd.f2, hd.f3, hd.f4, hd.f5, hd.pair, hd.pl, 2, hd.fl⟩ by rw [hhd]; exact ⟨rfl, rfl⟩)
      have HRES := hid (show goC (n + 1) false t l = .mk ⟨hd.f0, hd.f1, hd.f2, hd.f3, hd.f4, hd.f5, hd.pair, hd.pl, if t.fn = 1 then (if allC (((List.range (t.funs.length - 1)).map fun i => goC n true (t.funs.getD i ty0) l) ++ [goC n false (t.funs.getD (t.funs.length - 1) ty0) l]) = true then 0 else 2) else 0, 0⟩ PS (if t.fn = 1 then (if allC (((List.range (t.funs.length - 1)).map fun i => goC n true (t.funs.getD i ty0) l) ++ [goC n false (t.funs.getD (t.funs.length - 1) ty0) l]) = true then [] else ((List.range (t.funs.length - 1)).map fun i => goC n true (t.funs.getD i ty0) l) ++ [goC n false (t.funs.getD (t.funs.length - 1) ty0) l]) else []) by
       rw [hhd, hPS]; rw [goC, HTP.out, ← HA.out, HPP.out]; rfl)
      obtain ⟨pb, pn, pk, HO2, HPS⟩ : ∃ pb pn pk, Hid (CBox W2 (w.heap.size + 1 + 1) 30 ⟨hd, .slice pb pn pk, .slice none 0 0⟩) ∧ Hid (CoS W2 (Lc (fun x => (N x ∨ x = w.heap.size + 1) ∨ x = w.heap.size + 1 + 1) W2) (.slice pb pn pk) PS) := ⟨none, 0, 0, hid (by rw [hhd]; exact HO.out), hid (by rw [hPS]; exact .mkNil _ _)⟩
      clear hhd hPS
      clear HO
      have HO := HO2
      clear HO2
      have HA1 := HA
      clear HA
      go_wp2
      go_meet
      case rel => exact ⟨hid fun _ => ⟨hd, PS, pb, pn, pk, HHD, HRES, HO, HPS, HX, HR, HL, HSW⟩, fun h => absurd HPP.out h, HX⟩
     | false =>
      have x2 : W2.cell? ⟨w.heap.size, 2, none⟩ = some (.int .i64 t.pair) := HX.out.c2
      have oc6 : W2.cell? ⟨(w.heap.size + 1 + 1), 6, none⟩ = some (.int .i64 0) := HO.out.c6
      have oc8 : W2.cell? ⟨(w.heap.size + 1 + 1), 8, none⟩ = some (.slice none 0 0) := HO.out.c8
      have ofr6 := HO.out.fr 6
      have ofr8 := HO.out.fr 8
      go_wp2
      go_meet
      case rel =>
       clear x2 oc6 oc8 ofr6 ofr8
       obtain ⟨W3, hw⟩ : ∃ x, x = ((((W2).setCell ⟨(w.heap.size + 1 + 1), 6, none⟩ (.int .i64 2))).setCell ⟨(w.heap.size + 1 + 1), 8, none⟩ (.slice (some ⟨bb, 0, none⟩) 2 2)) := ⟨_, rfl⟩
       rw [← hw]
       replace HO := hid (show CBox W3 (w.heap.size + 1 + 1) 30 ⟨⟨0, 0, 0, 0, 0, 0, 2, 0, 0, 0⟩, .slice (some ⟨bb, 0, none⟩) 2 2, .slice none 0 0⟩ by rw [hw]; exact HO.out.s6.s8)
       replace HR := hid (show CBox W3 (w.heap.size + 1) 30 ⟨⟨0, 0, 0, 0, 0, 0, 0, 0, 0, 0⟩, .slice none 0 0, .slice none 0 0⟩ by rw [hw]; exact ((((HR.out).other (by omega))).other (by omega)))
       replace HX := hid (HX.out.under (w' := W3) (B := w.heap.size + 1) (by rw [hw]; exact (((Below.refl (w.heap.size + 1) W2).setCell (p := ⟨(w.heap.size + 1 + 1), 6, none⟩) (by show w.heap.size + 1 ≤ w.heap.size + 1 + 1; omega) _).setCell (p := ⟨(w.heap.size + 1 + 1), 8, none⟩) (by show w.heap.size + 1 ≤ w.heap.size + 1 + 1; omega) _)) (by omega))
       replace HL := hid (show Below w.heap.size w W3 by rw [hw]; exact ((HL.out.setCell (p := ⟨(w.heap.size + 1 + 1), 6, none⟩) (by show w.heap.size ≤ w.heap.size + 1 + 1; omega) _).setCell (p := ⟨(w.heap.size + 1 + 1), 8, none⟩) (by show w.heap.size ≤ w.heap.size + 1 + 1; omega) _))
       replace HF := hid (HF0.out.under HL.out)
       have hsw : W3.heap.size = W2.heap.size := by rw [hw]; simp [World.setCell]
       replace HSW := hid (show W.heap.size ≤ W3.heap.size by rw [hsw]; exact HSW.out)
       replace HCS := hid (show CoS W3 (Lc (fun x => (N x ∨ x = w.heap.size + 1) ∨ x = w.heap.size + 1 + 1) W3) _ _ by rw [hw]; exact (CoSN.set (CoSN.set HCS.out ⟨(w.heap.size + 1 + 1), 6, none⟩ (.inr rfl) _) ⟨(w.heap.size + 1 + 1), 8, none⟩ (.inr rfl) _))
       clear hw hsw
       have x2 : W3.cell? ⟨w.heap.size, 2, none⟩ = some (.int .i64 t.pair) := HX.out.c2
       obtain ⟨hd, hhd⟩ : ∃ hd : Hd, hd = ⟨0, 0, 0, 0, 0, 0, 2, 0, 0, 0⟩ := ⟨_, rfl⟩
       obtain ⟨PS, hPS⟩ : ∃ PS : List Co, PS = [d0, d1] := ⟨_, rfl⟩
       have HHD := hid (show (⟨hd.f0, hd.f1, hd.f2, hd.f3, hd.f4, hd.f5, hd.pair, hd.pl, 0, 0⟩ : Hd) = hd ∧ (⟨hd.f0, hd.f1, hd.f2, hd.f3, hd.f4, hd.f5, hd.pair, hd.pl, 2, 0⟩ : Hd) = ⟨hd.f0, hd.f1, hd.f2, hd.f3, hd.f4, hd.f5, hd.pair, hd.pl, 2, hd.fl⟩ by rw [hhd]; exact ⟨rfl, rfl⟩)
       have HRES := hid (show goC (n + 1) false t l = .mk ⟨hd.f0, hd.f1, hd.f2, hd.f3, hd.f4, hd.f5, hd.pair, hd.pl, if t.fn = 1 then (if allC (((List.range (t.funs.length - 1)).map fun i => goC n true (t.funs.getD i ty0) l) ++ [goC n false (t.funs.getD (t.funs.length - 1) ty0) l]) = true then 0 else 2) else 0, 0⟩ PS (if t.fn = 1 then (if allC (((List.range (t.funs.length - 1)).map fun i => goC n true (t.funs.getD i ty0) l) ++ [goC n false (t.funs.getD (t.funs.length - 1) ty0) l]) = true then [] else ((List.range (t.funs.length - 1)).map fun i => goC n true (t.funs.getD i ty0) l) ++ [goC n false (t.funs.getD (t.funs.length - 1) ty0) l]) else []) by
        rw [hhd, hPS]; rw [goC, HTP.out, ← HA.out, HPP.out]; rfl)
       obtain ⟨pb, pn, pk, HO2, HPS⟩ : ∃ pb pn pk, Hid (CBox W3 (w.heap.size + 1 + 1) 30 ⟨hd, .slice pb pn pk, .slice none 0 0⟩) ∧ Hid (CoS W3 (Lc (fun x => (N x ∨ x = w.heap.size + 1) ∨ x = w.heap.size + 1 + 1) W3) (.slice pb pn pk) PS) := ⟨some ⟨bb, 0, none⟩, 2, 2, hid (by rw [hhd]; exact HO.out), hid (by rw [hPS]; exact HCS.out)⟩
       clear hhd hPS
       clear HO
       have HO := HO2
       clear HO2
       have HA1 := HA
       clear HA
       exact ⟨hid fun _ => ⟨hd, PS, pb, pn, pk, HHD, HRES, HO, HPS, HX, HR, HL, HSW⟩, fun h => absurd HPP.out h, HX⟩
  case rest =>
   obtain ⟨HR1, HE1, HX1⟩ := hcut
   obtain ⟨wr1, rfl⟩ : ∃ x, x = wc := ⟨_, rfl⟩
   have hp12 : wr1.cell? ⟨w.heap.size, 2, none⟩ = some (.int .i64 t.pair) := HX1.out.c2
   clear Hzt
   go_upto_region 7 with fail
   go_cut [36] from 34 to 36 (fun cc wx => ∃ zz : Bool, cc = .bool zz ∧ Hid (zz = decide (t.pair = 2)) ∧ wr1 = wx)
   case first =>
    by_cases hz : t.pair = 2
    case neg =>
     have bz : (t.pair == 2) = false := beq_false_of_ne hz
     have HZ := hid hz
     clear hz
     go_wp2
     go_meet
     case rel => exact ⟨false, rfl, hid (decide_eq_false HZ.out).symm, rfl⟩
    have bz : (t.pair == 2) = true := by simp [hz]
    have HZ := hid hz
    clear hz
    go_wp2
    go_meet
    case rel => exact ⟨true, rfl, hid (decide_eq_true HZ.out).symm, rfl⟩
   case rest =>
    obtain ⟨zu, rfl, Hzu, rfl⟩ := hcut
    clear hp12
    go_upto_if 36 with fail
    go_cut [] from 36 to 49 (fun wx => ∃ (hd : Hd) (PS : List Co) (pb : Option Addr) (pn pk : Nat), Hid ((⟨hd.f0, hd.f1, hd.f2, hd.f3, hd.f4, hd.f5, hd.pair, hd.pl, 0, 0⟩ : Hd) = hd ∧ (⟨hd.f0, hd.f1, hd.f2, hd.f3, hd.f4, hd.f5, hd.pair, hd.pl, 2, 0⟩ : Hd) = ⟨hd.f0, hd.f1, hd.f2, hd.f3, hd.f4, hd.f5, hd.pair, hd.pl, 2, hd.fl⟩) ∧ Hid (goC (n + 1) false t l = .mk ⟨hd.f0, hd.f1, hd.f2, hd.f3, hd.f4, hd.f5, hd.pair, hd.pl, if t.fn = 1 then (if allC (((List.range (t.funs.length - 1)).map fun i => goC n true (t.funs.getD i ty0) l) ++ [goC n false (t.funs.getD (t.funs.length - 1) ty0) l]) = true then 0 else 2) else 0, 0⟩ PS (if t.fn = 1 then (if allC (((List.range (t.funs.length - 1)).map fun i => goC n true (t.funs.getD i ty0) l) ++ [goC n false (t.funs.getD (t.funs.length - 1) ty0) l]) = true then [] else ((List.range (t.funs.length - 1)).map fun i => goC n true (t.funs.getD i ty0) l) ++ [goC n false (t.funs.getD (t.funs.length - 1) ty0) l]) else [])) ∧ Hid (CBox wx (w.heap.size + 1 + 1) 30 ⟨hd, .slice pb pn pk, .slice none 0 0⟩) ∧ Hid (CoS wx (Lc (fun x => (N x ∨ x = w.heap.size + 1) ∨ x = w.heap.size + 1 + 1) wx) (.slice pb pn pk) PS) ∧ Hid (BoxAt wx w.heap.size t.all t.flat t.pair (.slice pa np pc) t.fn (.slice fa nf fc)) ∧ Hid (CBox wx (w.heap.size + 1) 30 ⟨⟨0, 0, 0, 0, 0, 0, 0, 0, 0, 0⟩, .slice none 0 0, .slice none 0 0⟩) ∧ Hid (Below w.heap.size w wx) ∧ Hid (W.heap.size ≤ wx.heap.size))
    case first =>
     cases zu with
     | false =>
      have hp2 : ¬ t.pair = 2 := of_decide_eq_false Hzu.out.symm
      clear Hzu
      by_cases hp1 : t.pair = 1
      case pos =>
       have HPP := hid hp1
       clear hp1 hp2
       obtain ⟨hd, PS, pb, pn, pk, HHD, HRES, HO, HPS, HX, HR, HL, HSW⟩ := HR1.out HPP.out
       go_wp2
       go_meet
       case rel => exact ⟨hd, PS, pb, pn, pk, HHD, HRES, HO, HPS, HX, HR, HL, HSW⟩
      obtain rfl := HE1 hp1
      have HP0 := hid (show t.pair = 0 by omega)
      clear HR1 HX1 hp1 hp2
      obtain ⟨hd, hhd⟩ : ∃ hd : Hd, hd = hd0 := ⟨_, rfl⟩
      obtain ⟨PS, hPS⟩ : ∃ PS : List Co, PS = [] := ⟨_, rfl⟩
      have HHD := hid (show (⟨hd.f0, hd.f1, hd.f2, hd.f3, hd.f4, hd.f5, hd.pair, hd.pl, 0, 0⟩ : Hd) = hd ∧ (⟨hd.f0, hd.f1, hd.f2, hd.f3, hd.f4, hd.f5, hd.pair, hd.pl, 2, 0⟩ : Hd) = ⟨hd.f0, hd.f1, hd.f2, hd.f3, hd.f4, hd.f5, hd.pair, hd.pl, 2, hd.fl⟩ by rw [hhd]; exact ⟨rfl, rfl⟩)
      have HRES := hid (show goC (n + 1) false t l = .mk ⟨hd.f0, hd.f1, hd.f2, hd.f3, hd.f4, hd.f5, hd.pair, hd.pl, if t.fn = 1 then (if allC (((List.range (t.funs.length - 1)).map fun i => goC n true (t.funs.getD i ty0) l) ++ [goC n false (t.funs.getD (t.funs.length - 1) ty0) l]) = true then 0 else 2) else 0, 0⟩ PS (if t.fn = 1 then (if allC (((List.range (t.funs.length - 1)).map fun i => goC n true (t.funs.getD i ty0) l) ++ [goC n false (t.funs.getD (t.funs.length - 1) ty0) l]) = true then [] else ((List.range (t.funs.length - 1)).map fun i => goC n true (t.funs.getD i ty0) l) ++ [goC n false (t.funs.getD (t.funs.length - 1) ty0) l]) else []) by
       rw [hhd, hPS]; rw [goC]; simp only [HP0.out]; rfl)
      obtain ⟨pb, pn, pk, HO2, HPS⟩ : ∃ pb pn pk, Hid (CBox W (w.heap.size + 1 + 1) 30 ⟨hd, .slice pb pn pk, .slice none 0 0⟩) ∧ Hid (CoS W (Lc (fun x => (N x ∨ x = w.heap.size + 1) ∨ x = w.heap.size + 1 + 1) W) (.slice pb pn pk) PS) := ⟨none, 0, 0, hid (by rw [hhd]; exact HO.out), hid (by rw [hPS]; exact .mkNil _ _)⟩
      clear hhd hPS
      clear HO
      have HO := HO2
      clear HO2
      go_wp2
      go_meet
      case rel => exact ⟨hd, PS, pb, pn, pk, HHD, HRES, HO, HPS, HX, HR, HL, HSW⟩
     | true =>
      have hq2 : t.pair = 2 := of_decide_eq_true Hzu.out.symm
      clear Hzu
      have hp1 : ¬ t.pair = 1 := by omega
      have hp0 : ¬ t.pair = 0 := by omega
      obtain rfl := HE1 hp1
      clear HR1 HX1
      have hp2 : t.pair = 2 := hq2
      have bp1 : (t.pair == 1) = false := by simp [hp2]
      have bp2 : (t.pair == 2) = true := by simp [hp2]
      have hnp2 := HKP.out
      rw [if_neg (by omega), if_pos hp2] at hnp2
      have hj0 : 0 < t.pairs.length := by rw [← HPN.out]; omega
      have hn0i : (0 : Int) < (np : Int) := by omega
      have hn0n : 0 < np := by omega
      obtain ⟨x0, hx0⟩ : ∃ x, t.pairs.getD 0 ty0 = x := ⟨_, rfl⟩
      obtain ⟨b, off, p1, c1, p2, c2, rfl, hb, e0, e1, e2, e3, e4, e5, hv0⟩ := TyS.elem HP.out hj0 hx0
      simp only [Nat.zero_mul, Nat.add_zero] at e0 e1 e2 e3 e4 e5
      have HDX0 := hid (show deepF n x0 = true by rw [← hx0]; exact HDP.out _ (getT_mem hj0))
      obtain ⟨d0, hd0'⟩ : ∃ d, d = goC n false x0 l := ⟨_, rfl⟩
      have HTP := hid (show t.pairs.map (fun x => goC n false x l) = [d0] by
       have hl : t.pairs.length = 1 := by rw [← HPN.out]; omega
       rw [hd0', ← hx0]
       match h : t.pairs, hl with
       | [y0], _ => rfl)
      have C := HFR.out x0 l _ W (fun x => (N x ∨ x = w.heap.size + 1) ∨ x = w.heap.size + 1 + 1) HDX0.out (fun y hy => HNB1.out y hy) hv0
      rw [← hd0'] at C
      have HC := hid C
      have HPP := hid hp2
      clear hnp2 hj0 hx0 hv0 hb hd0' hp0 hp1 hp2 hq2 C
      go_upto_region 8 with fail
      go_wp2_with fail
      refine HC.out.mono ?_
      rintro e v2 ⟨⟨u, rfl, hu⟩, hB⟩
      obtain ⟨q01, q02, q03, q04, rfl, _, _⟩ := hu.form
      have HU0 := hid hu
      replace HX := hid (HX.out.keep hB)
      replace HO := hid (HO.out.keep hB)
      replace HR := hid (HR.out.keep hB)
      replace HF := hid (HF.out.under hB)
      replace HL := hid (HL.out.trans (hB.mono HL.out.size))
      replace HSW := hid (Nat.le_trans HSW.out hB.size)
      clear hu hB x2 x3 e0 e1 e2 e3 e4 e5
      go_upto_region 9 with fail
      obtain ⟨v3, hw3⟩ : ∃ x, x = v2.alloc (.cells #[.int .i64 d0.h.f0, .int .i64 d0.h.f1, .int .i64 d0.h.f2, .int .i64 d0.h.f3, .int .i64 d0.h.f4, .int .i64 d0.h.f5, .int .i64 d0.h.pair, .int .i64 d0.h.pl, .slice q01 d0.pairs.length q02, .int .i64 d0.h.fn, .int .i64 d0.h.fl, .slice q03 d0.funs.length q04] 30) := ⟨_, rfl⟩
      rw [← hw3]
      have hB : Below v2.heap.size v2 v3 := by rw [hw3]; exact bAl _ _
      have HT := hid (show CBox v3 v2.heap.size 30 ⟨d0.h, .slice q01 d0.pairs.length q02, .slice q03 d0.funs.length q04⟩ by rw [hw3]; exact CBox.made _ _ ⟨d0.h, .slice q01 d0.pairs.length q02, .slice q03 d0.funs.length q04⟩)
      have HNE := hid (show v2.heap.size ≠ (w.heap.size + 1 + 1) by have h1 := HO.out.lt; omega)
      replace HX := hid (HX.out.keep hB)
      replace HO := hid (HO.out.keep hB)
      replace HR := hid (HR.out.keep hB)
      replace HF := hid (HF.out.under hB)
      replace HL := hid (HL.out.trans (hB.mono HL.out.size))
      replace HSW := hid (Nat.le_trans HSW.out hB.size)
      replace HU0 := hid (HU0.out.below hB)
      clear hB hw3
      obtain ⟨td0, td1, td2, td3, td4, td5, td6, td7, td8, td9, td10, td11⟩ := HT.out.cs
      (try dsimp only at td0 td1 td2 td3 td4 td5 td6 td7 td8 td9 td10 td11)
      go_wp2_with fail
      refine (rpass_go d0 _ v3 HU0.out.cv).mono ?_
      rintro e v4 ⟨rfl, hB⟩
      replace HX := hid (HX.out.keep hB)
      replace HO := hid (HO.out.keep hB)
      replace HR := hid (HR.out.keep hB)
      replace HF := hid (HF.out.under hB)
      replace HL := hid (HL.out.trans (hB.mono HL.out.size))
      replace HSW := hid (Nat.le_trans HSW.out hB.size)
      replace HU0 := hid (HU0.out.below hB)
      replace HT := hid (HT.out.keep hB)
      obtain ⟨A, hA⟩ : ∃ A, A = passC d0 := ⟨_, rfl⟩
      rw [← hA]
      have HA := hid (show A = allC [d0] by rw [hA]; simp [allC])
      clear hA hB td0 td1 td2 td3 td4 td5 td6 td7 td8 td9 td10 td11
      have x2 : v4.cell? ⟨w.heap.size, 2, none⟩ = some (.int .i64 t.pair) := HX.out.c2
      cases A with
      | true =>
       obtain ⟨hd, hhd⟩ : ∃ hd : Hd, hd = hd0 := ⟨_, rfl⟩
       obtain ⟨PS, hPS⟩ : ∃ PS : List Co, PS = [] := ⟨_, rfl⟩
       have HHD := hid (show (⟨hd.f0, hd.f1, hd.f2, hd.f3, hd.f4, hd.f5, hd.pair, hd.pl, 0, 0⟩ : Hd) = hd ∧ (⟨hd.f0, hd.f1, hd.f2, hd.f3, hd.f4, hd.f5, hd.pair, hd.pl, 2, 0⟩ : Hd) = ⟨hd.f0, hd.f1, hd.f2, hd.f3, hd.f4, hd.f5, hd.pair, hd.pl, 2, hd.fl⟩ by rw [hhd]; exact ⟨rfl, rfl⟩)
       have HRES := hid (show goC (n + 1) false t l = .mk ⟨hd.f0, hd.f1, hd.f2, hd.f3, hd.f4, hd.f5, hd.pair, hd.pl, if t.fn = 1 then (if allC (((List.range (t.funs.length - 1)).map fun i => goC n true (t.funs.getD i ty0) l) ++ [goC n false (t.funs.getD (t.funs.length - 1) ty0) l]) = true then 0 else 2) else 0, 0⟩ PS (if t.fn = 1 then (if allC (((List.range (t.funs.length - 1)).map fun i => goC n true (t.funs.getD i ty0) l) ++ [goC n false (t.funs.getD (t.funs.length - 1) ty0) l]) = true then [] else ((List.range (t.funs.length - 1)).map fun i => goC n true (t.funs.getD i ty0) l) ++ [goC n false (t.funs.getD (t.funs.length - 1) ty0) l]) else []) by
        rw [hhd, hPS]; rw [goC, HTP.out, ← HA.out, HPP.out]; rfl)
       obtain ⟨pb, pn, pk, HO2, HPS⟩ : ∃ pb pn pk, Hid (CBox v4 (w.heap.size + 1 + 1) 30 ⟨hd, .slice pb pn pk, .slice none 0 0⟩) ∧ Hid (CoS v4 (Lc (fun x => (N x ∨ x = w.heap.size + 1) ∨ x = w.heap.size + 1 + 1) v4) (.slice pb pn pk) PS) := ⟨none, 0, 0, hid (by rw [hhd]; exact HO.out), hid (by rw [hPS]; exact .mkNil _ _)⟩
       clear hhd hPS
       clear HO
       have HO := HO2
       clear HO2
       have HA1 := HA
       clear HA HT
       go_wp2
       go_meet
       case rel => exact ⟨hd, PS, pb, pn, pk, HHD, HRES, HO, HPS, HX, HR, HL, HSW⟩
      | false =>
       have oc6 : v4.cell? ⟨(w.heap.size + 1 + 1), 6, none⟩ = some (.int .i64 0) := HO.out.c6
       have ofr6 := HO.out.fr 6
       go_upto_region 11 with fail
       clear x2 oc6 ofr6
       have HLO := hid HO.out.lt
       obtain ⟨v5, hw⟩ : ∃ x, x = ((v4).setCell ⟨(w.heap.size + 1 + 1), 6, none⟩ (.int .i64 3)) := ⟨_, rfl⟩
       rw [← hw]
       replace HO := hid (show CBox v5 (w.heap.size + 1 + 1) 30 ⟨⟨0, 0, 0, 0, 0, 0, 3, 0, 0, 0⟩, .slice none 0 0, .slice none 0 0⟩ by rw [hw]; exact HO.out.s6)
       replace HR := hid (show CBox v5 (w.heap.size + 1) 30 ⟨⟨0, 0, 0, 0, 0, 0, 0, 0, 0, 0⟩, .slice none 0 0, .slice none 0 0⟩ by rw [hw]; exact ((HR.out).other (by omega)))
       replace HX := hid (HX.out.under (w' := v5) (B := w.heap.size + 1) (by rw [hw]; exact ((Below.refl (w.heap.size + 1) v4).setCell (p := ⟨(w.heap.size + 1 + 1), 6, none⟩) (by show w.heap.size + 1 ≤ w.heap.size + 1 + 1; omega) _)) (by omega))
       replace HL := hid (show Below w.heap.size w v5 by rw [hw]; exact (HL.out.setCell (p := ⟨(w.heap.size + 1 + 1), 6, none⟩) (by show w.heap.size ≤ w.heap.size + 1 + 1; omega) _))
       replace HF := hid (HF0.out.under HL.out)
       have hsw : v5.heap.size = v4.heap.size := by rw [hw]; simp [World.setCell]
       replace HSW := hid (show W.heap.size ≤ v5.heap.size by rw [hsw]; exact HSW.out)
       replace HT := hid (show CBox v5 v2.heap.size 30 _ by rw [hw]; exact HT.out.other HNE.out)
       replace HU0 := hid (show CoVN (fun x => (N x ∨ x = w.heap.size + 1) ∨ x = w.heap.size + 1 + 1) v5 _ d0 by rw [hw]; exact CoVN.set HU0.out ⟨(w.heap.size + 1 + 1), 6, none⟩ (.inr rfl) _)
       clear hw hsw
       obtain ⟨td0, td1, td2, td3, td4, td5, td6, td7, td8, td9, td10, td11⟩ := HT.out.cs
       (try dsimp only at td0 td1 td2 td3 td4 td5 td6 td7 td8 td9 td10 td11)
       have x2 : v5.cell? ⟨w.heap.size, 2, none⟩ = some (.int .i64 t.pair) := HX.out.c2
       have oc8 : v5.cell? ⟨(w.heap.size + 1 + 1), 8, none⟩ = some (.slice none 0 0) := HO.out.c8
       have ofr8 := HO.out.fr 8
       have hlo : (w.heap.size + 1 + 1) < v5.heap.size := HO.out.lt
       go_wp2
       go_meet
       case rel =>
        have HN6 := hid (show ∀ y, (fun x => (N x ∨ x = w.heap.size + 1) ∨ x = w.heap.size + 1 + 1) y → y < v5.heap.size from fun y hy => Nat.lt_of_lt_of_le (HNB1.out y hy) HSW.out)
        clear x2 oc8 ofr8 td0 td1 td2 td3 td4 td5 td6 td7 td8 td9 td10 td11
        obtain ⟨v6, hw⟩ : ∃ x, x = ((v5).setCell ⟨(w.heap.size + 1 + 1), 8, none⟩ (.slice (some ⟨v5.heap.size, 0, none⟩) 1 1)) := ⟨_, rfl⟩
        rw [← hw]
        replace HO := hid (show CBox v6 (w.heap.size + 1 + 1) 30 ⟨⟨0, 0, 0, 0, 0, 0, 3, 0, 0, 0⟩, .slice (some ⟨v5.heap.size, 0, none⟩) 1 1, .slice none 0 0⟩ by rw [hw]; exact HO.out.s8)
        replace HR := hid (show CBox v6 (w.heap.size + 1) 30 ⟨⟨0, 0, 0, 0, 0, 0, 0, 0, 0, 0⟩, .slice none 0 0, .slice none 0 0⟩ by rw [hw]; exact ((HR.out).other (by omega)))
        replace HX := hid (HX.out.under (w' := v6) (B := w.heap.size + 1) (by rw [hw]; exact ((Below.refl (w.heap.size + 1) v5).setCell (p := ⟨(w.heap.size + 1 + 1), 8, none⟩) (by show w.heap.size + 1 ≤ w.heap.size + 1 + 1; omega) _)) (by omega))
        replace HL := hid (show Below w.heap.size w v6 by rw [hw]; exact (HL.out.setCell (p := ⟨(w.heap.size + 1 + 1), 8, none⟩) (by show w.heap.size ≤ w.heap.size + 1 + 1; omega) _))
        replace HF := hid (HF0.out.under HL.out)
        have hsw : v6.heap.size = v5.heap.size := by rw [hw]; simp [World.setCell]
        replace HSW := hid (show W.heap.size ≤ v6.heap.size by rw [hsw]; exact HSW.out)
        replace HU0 := hid (show CoVN (fun x => (N x ∨ x = w.heap.size + 1) ∨ x = w.heap.size + 1 + 1) v6 _ d0 by rw [hw]; exact CoVN.set HU0.out ⟨(w.heap.size + 1 + 1), 8, none⟩ (.inr rfl) _)
        have HS6 := hid hsw
        clear hw hsw hlo
        obtain ⟨v7, hv7⟩ : ∃ x, x = v6.alloc (.cells #[.int .i64 d0.h.f0, .int .i64 d0.h.f1, .int .i64 d0.h.f2, .int .i64 d0.h.f3, .int .i64 d0.h.f4, .int .i64 d0.h.f5, .int .i64 d0.h.pair, .int .i64 d0.h.pl, .slice q01 d0.pairs.length q02, .int .i64 d0.h.fn, .int .i64 d0.h.fl, .slice q03 d0.funs.length q04] 30) := ⟨_, rfl⟩
        rw [← hv7]
        have hB : Below v6.heap.size v6 v7 := by rw [hv7]; exact bAl _ _
        have h1 := CoS.one (T := 30) (N := (fun x => (N x ∨ x = w.heap.size + 1) ∨ x = w.heap.size + 1 + 1)) (fun y hy => by rw [HS6.out]; exact HN6.out y hy) HU0.out.raw
        rw [HS6.out] at h1
        have HCS := hid (show CoS v7 (Lc (fun x => (N x ∨ x = w.heap.size + 1) ∨ x = w.heap.size + 1 + 1) v7) (.slice (some ⟨v5.heap.size, 0, none⟩) 1 1) [d0] by rw [hv7]; exact h1)
        replace HX := hid (HX.out.keep hB)
        replace HO := hid (HO.out.keep hB)
        replace HR := hid (HR.out.keep hB)
        replace HF := hid (HF.out.under hB)
        replace HL := hid (HL.out.trans (hB.mono HL.out.size))
        replace HSW := hid (Nat.le_trans HSW.out hB.size)
        clear h1 hB hv7 HT HU0
        have x2 : v7.cell? ⟨w.heap.size, 2, none⟩ = some (.int .i64 t.pair) := HX.out.c2
        obtain ⟨hd, hhd⟩ : ∃ hd : Hd, hd = ⟨0, 0, 0, 0, 0, 0, 3, 0, 0, 0⟩ := ⟨_, rfl⟩
        obtain ⟨PS, hPS⟩ : ∃ PS : List Co, PS = [d0] := ⟨_, rfl⟩
        have HHD := hid (show (⟨hd.f0, hd.f1, hd.f2, hd.f3, hd.f4, hd.f5, hd.pair, hd.pl, 0, 0⟩ : Hd) = hd ∧ (⟨hd.f0, hd.f1, hd.f2, hd.f3, hd.f4, hd.f5, hd.pair, hd.pl, 2, 0⟩ : Hd) = ⟨hd.f0, hd.f1, hd.f2, hd.f3, hd.f4, hd.f5, hd.pair, hd.pl, 2, hd.fl⟩ by rw [hhd]; exact ⟨rfl, rfl⟩)
        have HRES := hid (show goC (n + 1) false t l = .mk ⟨hd.f0, hd.f1, hd.f2, hd.f3, hd.f4, hd.f5, hd.pair, hd.pl, if t.fn = 1 then (if allC (((List.range (t.funs.length - 1)).map fun i => goC n true (t.funs.getD i ty0) l) ++ [goC n false (t.funs.getD (t.funs.length - 1) ty0) l]) = true then 0 else 2) else 0, 0⟩ PS (if t.fn = 1 then (if allC (((List.range (t.funs.length - 1)).map fun i => goC n true (t.funs.getD i ty0) l) ++ [goC n false (t.funs.getD (t.funs.length - 1) ty0) l]) = true then [] else ((List.range (t.funs.length - 1)).map fun i => goC n true (t.funs.getD i ty0) l) ++ [goC n false (t.funs.getD (t.funs.length - 1) ty0) l]) else []) by
         rw [hhd, hPS]; rw [goC, HTP.out, ← HA.out, HPP.out]; rfl)
        obtain ⟨pb, pn, pk, HO2, HPS⟩ : ∃ pb pn pk, Hid (CBox v7 (w.heap.size + 1 + 1) 30 ⟨hd, .slice pb pn pk, .slice none 0 0⟩) ∧ Hid (CoS v7 (Lc (fun x => (N x ∨ x = w.heap.size + 1) ∨ x = w.heap.size + 1 + 1) v7) (.slice pb pn pk) PS) := ⟨some ⟨v5.heap.size, 0, none⟩, 1, 1, hid (by rw [hhd]; exact HO.out), hid (by rw [hPS]; exact HCS.out)⟩
        clear hhd hPS
        clear HO
        have HO := HO2
        clear HO2
        have HA1 := HA
        clear HA
        exact ⟨hd, PS, pb, pn, pk, HHD, HRES, HO, HPS, HX, HR, HL, HSW⟩
    case rest =>
     obtain ⟨hd, PS, pb, pn, pk, HHD, HRES, HO2, HPS, HX2, HR2, HL2, HSW2⟩ := hcut
     clear HR1 HE1 HX1 HO HX HR HL HSW HF x2 x3 Hzu
     obtain ⟨wq, rfl⟩ : ∃ x, x = wc := ⟨_, rfl⟩
     have HO := HO2
     have HX := HX2
     have HR := HR2
     have HL := HL2
     have HSW := HSW2
     have HF := hid (HF0.out.under HL.out)
     clear HO2 HX2 HR2 HL2 HSW2
     by_cases hf1 : t.fn = 1
     case neg =>
      have bf1 : (t.fn == 1) = false := beq_false_of_ne hf1
      have HF1 := hid hf1
      have x4 : wq.cell? ⟨w.heap.size, 4, none⟩ = some (.int .i64 t.fn) := HX.out.c4
      clear hf1
      obtain ⟨o0, o1, o2, o3, o4, o5, o6, o7, o8, o9, o10, o11⟩ := HO.out.cs
      (try dsimp only at o0 o1 o2 o3 o4 o5 o6 o7 o8 o9 o10 o11)
      obtain ⟨r0, r1, r2, r3, r4, r5, r6, r7, r8, r9, r10, r11⟩ := HR.out.cs
      (try dsimp only at r0 r1 r2 r3 r4 r5 r6 r7 r8 r9 r10 r11)
      obtain ⟨fr0, fr1, fr2, fr3, fr4, fr5, fr6, fr7, fr8, fr9, fr10, fr11⟩ := HR.out.frs
      go_wp2
      have HPOST := hid (show CoPost N (goC (n + 1) false t l) w (.returned (coV ⟨hd, .slice pb pn pk, .slice none 0 0⟩)) (set12 (wq) (w.heap.size + 1) ⟨hd, .slice pb pn pk, .slice none 0 0⟩) from by rw [HRES.out, if_neg HF1.out, if_neg HF1.out, HHD.out.1]; exact ⟨⟨_, rfl, (CoVN.set12 (g := w.heap.size + 1) (CoVN.mk (h := hd) HPS.out (.mkNil _ _)) (.inl (.inr rfl))).mono fun _ _ h => .inl (.inl h)⟩, Below.set12 (g := w.heap.size + 1) HL.out (by omega)⟩)
      refine ret12 (wq) (w.heap.size + 1) ⟨hd, .slice pb pn pk, .slice none 0 0⟩ (HR.out) HPOST.out (fun wf hb => ?_) rfl
      obtain ⟨z0, z1, z2, z3, z4, z5, z6, z7, z8, z9, z10, z11⟩ := hb.cs
      simp [results, Tryd.results34, go_sem, coV, z0, z1, z2, z3, z4, z5, z6, z7, z8, z9, z10, z11]

     have bf1 : (t.fn == 1) = true := by simp [hf1]
     have hk1 := HKF.out hf1
     obtain ⟨k, hk⟩ : ∃ k, nf = k + 1 := ⟨nf - 1, by omega⟩
     subst hk
     have bk8 : k ≤ 8 := by omega
     have HF1 := hid hf1
     have x4 : wq.cell? ⟨w.heap.size, 4, none⟩ = some (.int .i64 t.fn) := HX.out.c4
     have x5 : wq.cell? ⟨w.heap.size, 5, none⟩ = some (.slice fa (k + 1) fc) := HX.out.c5
     clear hf1 hk1
     go_wp2
     go_loopw [8, 10] (fun lv iv wr => GoR (fun x => (N x ∨ x = w.heap.size + 1) ∨ x = w.heap.size + 1 + 1) 30 n true l k wq t.funs lv iv wr) (fun _ iv _ => k - (intOf iv).toNat)
     case atStart => exact ⟨0, none, 0, Nat.zero_le _, rfl, rfl, hid RowC.nil, hid (Below.refl _ _)⟩
     case round =>
      clear x4 x5
      obtain ⟨i, ra, rc, hi1, rfl, rfl, HROW, HB⟩ := hrel
      have x5 : wr.cell? ⟨w.heap.size, 5, none⟩ = some (.slice fa (k + 1) fc) := (HX.out.keep HB.out).c5
      have hi0 : (0 : Int) ≤ (i : Int) := Int.natCast_nonneg _
      have hik : (i : Int) ≤ 8 := by omega
      by_cases hlt : i < k
      ·
       have hi2 : (i : Int) < (k : Int) := by omega
       have hi3 : (i : Int) < (k : Int) + 1 := by omega
       have hj : i < t.funs.length := by rw [← HFN.out]; omega
       obtain ⟨x, hx⟩ : ∃ x, t.funs.getD i ty0 = x := ⟨_, rfl⟩
       obtain ⟨b, off, p1, c1, p2, c2, rfl, hb, e0, e1, e2, e3, e4, e5, hv⟩ := TyS.elem (HF.out.under HB.out) hj hx

       have hdx : deepF n x = true := by rw [← hx]; exact HDF.out _ (getT_mem hj)
       have HLE := hid (show ((List.range i).map fun j => goC n true (t.funs.getD j ty0) l).length = i by simp)
       have hrl := HROW.out.lt
       have C := HTO.out x l _ wr (fun y => (fun x => (N x ∨ x = w.heap.size + 1) ∨ x = w.heap.size + 1 + 1) y ∨ (Value.slice ra i rc).ownBlock = some y) hdx (fun y hy => hy.elim (fun h => Nat.lt_of_lt_of_le (HNB1.out y h) (by have h1 := HSW.out; have h2 := HB.out.size; omega)) fun h => (hrl y h).2) hv
       obtain ⟨d, hd⟩ : ∃ d, d = goC n true x l := ⟨_, rfl⟩
       rw [← hd] at C
       have HC := hid C
       have HLT := hid hlt
       have HSN := hid (show ((List.range (i + 1)).map fun j => goC n true (t.funs.getD j ty0) l) = ((List.range i).map fun j => goC n true (t.funs.getD j ty0) l) ++ [d] by rw [List.range_succ, List.map_append, hd, ← hx]; rfl)
       clear hx hv hb hdx hj C hd hrl hlt hi1
       go_wp2_with fail
       refine HC.out.mono ?_
       rintro e w4 ⟨⟨u, rfl, hu⟩, hb4⟩
       have HROW4 := hid (HROW.out.below hb4)
       have HBW4 := hid (HB.out.trans (hb4.mono HB.out.size))
       clear hb4 e0 e1 e2 e3 e4 e5 x5
       obtain ⟨q1, k1, q2, k2, rfl, _, _⟩ := hu.form
       have HU := hid hu.raw
       obtain ⟨rs, hown, hraw⟩ := HROW4.out
       rw [HLE.out] at hown
       have HOWN := hid (hown.alloc (.cells #[.int .i64 d.h.f0, .int .i64 d.h.f1, .int .i64 d.h.f2, .int .i64 d.h.f3, .int .i64 d.h.f4, .int .i64 d.h.f5, .int .i64 d.h.pair, .int .i64 d.h.pl, .slice q1 d.pairs.length k1, .int .i64 d.h.fn, .int .i64 d.h.fl, .slice q2 d.funs.length k2] 30))
       have HRAW := hid hraw
       have HONE := hid (show ∀ y ∈ ([.int .i64 d.h.f0, .int .i64 d.h.f1, .int .i64 d.h.f2, .int .i64 d.h.f3, .int .i64 d.h.f4, .int .i64 d.h.f5, .int .i64 d.h.pair, .int .i64 d.h.pl, .slice q1 d.pairs.length k1, .int .i64 d.h.fn, .int .i64 d.h.fl, .slice q2 d.funs.length k2] : List Value), y.oneCell' = true by intro y hy; simp only [List.mem_cons, List.not_mem_nil, or_false] at hy; rcases hy with rfl | rfl | rfl | rfl | rfl | rfl | rfl | rfl | rfl | rfl | rfl | rfl <;> rfl)
       have HMX := hid (show i + 1 ≤ maxLen by unfold maxLen; omega)
       have HBY := hid (show (i + 1) * 128 ≤ 140737488355328 by omega)
       have HBS := hid (show wq.heap.size ≤ (w4.alloc (.cells #[.int .i64 d.h.f0, .int .i64 d.h.f1, .int .i64 d.h.f2, .int .i64 d.h.f3, .int .i64 d.h.f4, .int .i64 d.h.f5, .int .i64 d.h.pair, .int .i64 d.h.pl, .slice q1 d.pairs.length k1, .int .i64 d.h.fn, .int .i64 d.h.fl, .slice q2 d.funs.length k2] 30)).heap.size by have h1 := HBW4.out.size; simp; omega)
       have HSZ4 := hid (show (w4.alloc (.cells #[.int .i64 d.h.f0, .int .i64 d.h.f1, .int .i64 d.h.f2, .int .i64 d.h.f3, .int .i64 d.h.f4, .int .i64 d.h.f5, .int .i64 d.h.pair, .int .i64 d.h.pl, .slice q1 d.pairs.length k1, .int .i64 d.h.fn, .int .i64 d.h.fl, .slice q2 d.funs.length k2] 30)).heap.size = w4.heap.size + 1 by simp)
       clear hu hown hraw
       go_wp2_with (at_builtin; refine wpList_append_lies _ rfl _ _ 28 rfl wq.heap.size 30 i0 (.agg #[.int .i64 0, .int .i64 0, .int .i64 0, .int .i64 0, .int .i64 0, .int .i64 0, .int .i64 0, .int .i64 0, .slice none 0 0, .int .i64 0, .int .i64 0, .slice none 0 0]) 12 128 Tryd.underlying28 hi hz0 hz1 hz2 rfl (by decide) _ i (cosCells rs) rfl HOWN.out ⟨w4.heap.size, 0, none⟩ 1 1 [.int .i64 d.h.f0, .int .i64 d.h.f1, .int .i64 d.h.f2, .int .i64 d.h.f3, .int .i64 d.h.f4, .int .i64 d.h.f5, .int .i64 d.h.pair, .int .i64 d.h.pl, .slice q1 d.pairs.length k1, .int .i64 d.h.fn, .int .i64 d.h.fl, .slice q2 d.funs.length k2] rfl rfl (World.news_of_block (heap_alloc_new w4 _)) HONE.out (by decide) HMX.out HBY.out HBS.out (w4.heap.size + 1) HSZ4.out ?_)
       intro gg cap w5 hown5 hgrow5 hlies5 hlt5
       have hlow := HROW4.out.lt
       have hrow5 : RowC 30 (fun x => (N x ∨ x = w.heap.size + 1) ∨ x = w.heap.size + 1 + 1) wq.heap.size w5 (.slice (some ⟨gg, 0, none⟩) (i + 1) cap) (((List.range i).map fun j => goC n true (t.funs.getD j ty0) l) ++ [d]) := by
        have h2 : RawCo w4 (fun b => Lc (fun x => (N x ∨ x = w.heap.size + 1) ∨ x = w.heap.size + 1 + 1) w4 b ∧ (Value.slice ra i rc).ownBlock ≠ some b) ⟨d.h, .slice q1 d.pairs.length k1, .slice q2 d.funs.length k2⟩ d := HU.out.mono (fun b h => ⟨⟨h.1, fun e => h.2 (.inl e)⟩, fun e => h.2 (.inr e)⟩) fun _ _ _ => rfl
        have hlen := HLE.out
        have h3 := rowc_push (l := ((List.range i).map fun j => goC n true (t.funs.getD j ty0) l)) (cap := cap) HRAW.out h2 hgrow5 (hlies5.imp id id) (by rw [hlen]; exact hown5)
        rw [hlen] at h3; exact h3
       have hb5 : Below wq.heap.size wq w5 := (HBW4.out.alloc HBW4.out.size _).grown hgrow5 (by rw [HSZ4.out]; have := HBW4.out.size; omega) fun x hx => (hlow x hx).1
       have HROW5 := hid hrow5
       have HB5 := hid hb5
       clear hrow5 hb5 hown5 hgrow5 hlies5 hlt5 hlow
       rw [← HSN.out] at HROW5
       go_wp2
       refine ⟨⟨i + 1, some ⟨gg, 0, none⟩, cap, HLT.out, by go_num, by go_num, HROW5, HB5⟩, by have := HLT.out; simp [intOf]; omega⟩
      ·
       have hin : i = k := by omega
       rw [hin] at HROW
       obtain ⟨W1, rfl⟩ : ∃ x, x = wr := ⟨_, rfl⟩
       have hj : k < t.funs.length := by rw [← HFN.out]; omega
       obtain ⟨x, hx⟩ : ∃ x, t.funs.getD k ty0 = x := ⟨_, rfl⟩
       obtain ⟨b, off, p1, c1, p2, c2, rfl, hb, e0, e1, e2, e3, e4, e5, hv⟩ := TyS.elem (HF.out.under HB.out) hj hx

       have hdx : deepF n x = true := by rw [← hx]; exact HDF.out _ (getT_mem hj)
       have HLE := hid (show ((List.range k).map fun j => goC n true (t.funs.getD j ty0) l).length = k by simp)
       have hrl := HROW.out.lt
       have C := HFR.out x l _ W1 (fun y => (fun x => (N x ∨ x = w.heap.size + 1) ∨ x = w.heap.size + 1 + 1) y ∨ (Value.slice ra k rc).ownBlock = some y) hdx (fun y hy => hy.elim (fun h => Nat.lt_of_lt_of_le (HNB1.out y h) (by have h1 := HSW.out; have h2 := HB.out.size; omega)) fun h => (hrl y h).2) hv
       obtain ⟨d, hd⟩ : ∃ d, d = goC n false x l := ⟨_, rfl⟩
       rw [← hd] at C
       have HC := hid C
       obtain ⟨FS, hFS⟩ : ∃ FS, FS = ((List.range k).map fun j => goC n true (t.funs.getD j ty0) l) ++ [d] := ⟨_, rfl⟩
       have HFS := hid hFS
       have HLF := hid (show k + 1 = FS.length by rw [hFS]; simp)
       have HRS := hid (show ((List.range (t.funs.length - 1)).map fun j => goC n true (t.funs.getD j ty0) l) ++ [goC n false (t.funs.getD (t.funs.length - 1) ty0) l] = FS by rw [← HFN.out, Nat.add_sub_cancel, hFS, hd, ← hx])
       have hk0 : (0 : Int) ≤ (k : Int) := Int.natCast_nonneg _
       have hk1 : (k : Int) < (k : Int) + 1 := by omega
       rw [hin] at *
       clear hx hv hb hdx hj C hd hrl hlt hi1 hin hFS
       go_wp2_with fail
       refine HC.out.mono ?_
       rintro e w4 ⟨⟨u, rfl, hu⟩, hb4⟩
       have HROW4 := hid (HROW.out.below hb4)
       have HBW4 := hid (HB.out.trans (hb4.mono HB.out.size))
       clear hb4 e0 e1 e2 e3 e4 e5 x5
       obtain ⟨q1, k1, q2, k2, rfl, _, _⟩ := hu.form
       have HU := hid hu.raw
       obtain ⟨rs, hown, hraw⟩ := HROW4.out
       rw [HLE.out] at hown
       have HOWN := hid (hown.alloc (.cells #[.int .i64 d.h.f0, .int .i64 d.h.f1, .int .i64 d.h.f2, .int .i64 d.h.f3, .int .i64 d.h.f4, .int .i64 d.h.f5, .int .i64 d.h.pair, .int .i64 d.h.pl, .slice q1 d.pairs.length k1, .int .i64 d.h.fn, .int .i64 d.h.fl, .slice q2 d.funs.length k2] 30))
       have HRAW := hid hraw
       have HONE := hid (show ∀ y ∈ ([.int .i64 d.h.f0, .int .i64 d.h.f1, .int .i64 d.h.f2, .int .i64 d.h.f3, .int .i64 d.h.f4, .int .i64 d.h.f5, .int .i64 d.h.pair, .int .i64 d.h.pl, .slice q1 d.pairs.length k1, .int .i64 d.h.fn, .int .i64 d.h.fl, .slice q2 d.funs.length k2] : List Value), y.oneCell' = true by intro y hy; simp only [List.mem_cons, List.not_mem_nil, or_false] at hy; rcases hy with rfl | rfl | rfl | rfl | rfl | rfl | rfl | rfl | rfl | rfl | rfl | rfl <;> rfl)
       have HMX := hid (show k + 1 ≤ maxLen by unfold maxLen; omega)
       have HBY := hid (show (k + 1) * 128 ≤ 140737488355328 by omega)
       have HBS := hid (show wq.heap.size ≤ (w4.alloc (.cells #[.int .i64 d.h.f0, .int .i64 d.h.f1, .int .i64 d.h.f2, .int .i64 d.h.f3, .int .i64 d.h.f4, .int .i64 d.h.f5, .int .i64 d.h.pair, .int .i64 d.h.pl, .slice q1 d.pairs.length k1, .int .i64 d.h.fn, .int .i64 d.h.fl, .slice q2 d.funs.length k2] 30)).heap.size by have h1 := HBW4.out.size; simp; omega)
       have HSZ4 := hid (show (w4.alloc (.cells #[.int .i64 d.h.f0, .int .i64 d.h.f1, .int .i64 d.h.f2, .int .i64 d.h.f3, .int .i64 d.h.f4, .int .i64 d.h.f5, .int .i64 d.h.pair, .int .i64 d.h.pl, .slice q1 d.pairs.length k1, .int .i64 d.h.fn, .int .i64 d.h.fl, .slice q2 d.funs.length k2] 30)).heap.size = w4.heap.size + 1 by simp)
       clear hu hown hraw
       go_wp2_with (at_builtin; refine wpList_append_lies _ rfl _ _ 28 rfl wq.heap.size 30 i0 (.agg #[.int .i64 0, .int .i64 0, .int .i64 0, .int .i64 0, .int .i64 0, .int .i64 0, .int .i64 0, .int .i64 0, .slice none 0 0, .int .i64 0, .int .i64 0, .slice none 0 0]) 12 128 Tryd.underlying28 hi hz0 hz1 hz2 rfl (by decide) _ k (cosCells rs) rfl HOWN.out ⟨w4.heap.size, 0, none⟩ 1 1 [.int .i64 d.h.f0, .int .i64 d.h.f1, .int .i64 d.h.f2, .int .i64 d.h.f3, .int .i64 d.h.f4, .int .i64 d.h.f5, .int .i64 d.h.pair, .int .i64 d.h.pl, .slice q1 d.pairs.length k1, .int .i64 d.h.fn, .int .i64 d.h.fl, .slice q2 d.funs.length k2] rfl rfl (World.news_of_block (heap_alloc_new w4 _)) HONE.out (by decide) HMX.out HBY.out HBS.out (w4.heap.size + 1) HSZ4.out ?_)
       intro gg cap w5 hown5 hgrow5 hlies5 hlt5
       have hlow := HROW4.out.lt
       have hrow5 : RowC 30 (fun x => (N x ∨ x = w.heap.size + 1) ∨ x = w.heap.size + 1 + 1) wq.heap.size w5 (.slice (some ⟨gg, 0, none⟩) (k + 1) cap) (((List.range k).map fun j => goC n true (t.funs.getD j ty0) l) ++ [d]) := by
        have h2 : RawCo w4 (fun b => Lc (fun x => (N x ∨ x = w.heap.size + 1) ∨ x = w.heap.size + 1 + 1) w4 b ∧ (Value.slice ra k rc).ownBlock ≠ some b) ⟨d.h, .slice q1 d.pairs.length k1, .slice q2 d.funs.length k2⟩ d := HU.out.mono (fun b h => ⟨⟨h.1, fun e => h.2 (.inl e)⟩, fun e => h.2 (.inr e)⟩) fun _ _ _ => rfl
        have hlen := HLE.out
        have h3 := rowc_push (l := ((List.range k).map fun j => goC n true (t.funs.getD j ty0) l)) (cap := cap) HRAW.out h2 hgrow5 (hlies5.imp id id) (by rw [hlen]; exact hown5)
        rw [hlen] at h3; exact h3
       have hb5 : Below wq.heap.size wq w5 := (HBW4.out.alloc HBW4.out.size _).grown hgrow5 (by rw [HSZ4.out]; have := HBW4.out.size; omega) fun x hx => (hlow x hx).1
       have HROW5 := hid hrow5
       have HB5 := hid hb5
       clear hrow5 hb5 hown5 hgrow5 hlies5 hlt5 hlow
       rw [← HFS.out] at HROW5
       have hdone := HROW5.out.done (fun y hy => Nat.lt_of_lt_of_le (HNB1.out y hy) HSW.out) (by rw [← HLF.out]; unfold maxLen; omega)
       have HDN := hid hdone
       have hB := HB5.out
       replace HX := hid (HX.out.keep hB)
       replace HO := hid (HO.out.keep hB)
       replace HR := hid (HR.out.keep hB)
       replace HPS := hid (CoSN.below HPS.out hB)
       replace HF := hid (HF.out.under hB)
       replace HL := hid (HL.out.trans (hB.mono HL.out.size))
       have HAL := hid (rall_go FS (some ⟨gg, 0, none⟩) (k + 1) cap w5 HLF.out (CoSN.mono HDN.out fun _ _ h => h.elim))
       clear hdone hB HROW5 HROW4
       go_wp2_with fail
       refine HAL.out.mono ?_
       rintro e w6 ⟨rfl, hB⟩
       replace HX := hid (HX.out.keep hB)
       replace HO := hid (HO.out.keep hB)
       replace HR := hid (HR.out.keep hB)
       replace HPS := hid (CoSN.below HPS.out hB)
       replace HF := hid (HF.out.under hB)
       replace HL := hid (HL.out.trans (hB.mono HL.out.size))
       replace HDN := hid (CoSN.below HDN.out hB)
       obtain ⟨A, hA⟩ : ∃ A, A = allC FS := ⟨_, rfl⟩
       rw [← hA]
       have HA := hid hA
       clear hA hB
       obtain ⟨o0, o1, o2, o3, o4, o5, o6, o7, o8, o9, o10, o11⟩ := HO.out.cs
       (try dsimp only at o0 o1 o2 o3 o4 o5 o6 o7 o8 o9 o10 o11)
       obtain ⟨r0, r1, r2, r3, r4, r5, r6, r7, r8, r9, r10, r11⟩ := HR.out.cs
       (try dsimp only at r0 r1 r2 r3 r4 r5 r6 r7 r8 r9 r10 r11)
       obtain ⟨fr0, fr1, fr2, fr3, fr4, fr5, fr6, fr7, fr8, fr9, fr10, fr11⟩ := HR.out.frs
       cases A with
       | true =>
        go_wp2
        have HPOST := hid (show CoPost N (goC (n + 1) false t l) w (.returned (coV ⟨hd, .slice pb pn pk, .slice none 0 0⟩)) (set12 (w6) (w.heap.size + 1) ⟨hd, .slice pb pn pk, .slice none 0 0⟩) from by rw [HRES.out, if_pos HF1.out, if_pos HF1.out, HRS.out, ← HA.out, if_pos rfl, if_pos rfl, HHD.out.1]; exact ⟨⟨_, rfl, (CoVN.set12 (g := w.heap.size + 1) (CoVN.mk (h := hd) HPS.out (.mkNil _ _)) (.inl (.inr rfl))).mono fun _ _ h => .inl (.inl h)⟩, Below.set12 (g := w.heap.size + 1) HL.out (by omega)⟩)
        refine ret12 (w6) (w.heap.size + 1) ⟨hd, .slice pb pn pk, .slice none 0 0⟩ (HR.out) HPOST.out (fun wf hb => ?_) rfl
        obtain ⟨z0, z1, z2, z3, z4, z5, z6, z7, z8, z9, z10, z11⟩ := hb.cs
        simp [results, Tryd.results34, go_sem, coV, z0, z1, z2, z3, z4, z5, z6, z7, z8, z9, z10, z11]
       | false =>
        have ofr4 := HO.out.fr 9
        have ofr6 := HO.out.fr 11
        go_upto_region 23 with fail
        obtain ⟨w7, hw7⟩ : ∃ x, x = (w6.setCell ⟨(w.heap.size + 1 + 1), 9, none⟩ (.int .i64 2)).setCell ⟨(w.heap.size + 1 + 1), 11, none⟩ (.slice (some ⟨gg, 0, none⟩) (k + 1) cap) := ⟨_, rfl⟩
        rw [← hw7]
        have HO7 := hid (show CBox w7 (w.heap.size + 1 + 1) 30 ⟨⟨hd.f0, hd.f1, hd.f2, hd.f3, hd.f4, hd.f5, hd.pair, hd.pl, 2, hd.fl⟩, .slice pb pn pk, .slice (some ⟨gg, 0, none⟩) (k + 1) cap⟩ by rw [hw7]; exact HO.out.s9.s11)
        have HR7 := hid (show CBox w7 (w.heap.size + 1) 30 ⟨⟨0, 0, 0, 0, 0, 0, 0, 0, 0, 0⟩, .slice none 0 0, .slice none 0 0⟩ by rw [hw7]; exact (HR.out.other (by omega)).other (by omega))
        have HPS7 := hid (show CoS w7 (Lc (fun x => (N x ∨ x = w.heap.size + 1) ∨ x = w.heap.size + 1 + 1) w7) (.slice pb pn pk) PS by rw [hw7]; exact CoSN.set (CoSN.set HPS.out ⟨(w.heap.size + 1 + 1), 9, none⟩ (.inr rfl) _) ⟨(w.heap.size + 1 + 1), 11, none⟩ (.inr rfl) _)
        have HDN7 := hid (show CoS w7 (Lc (fun x => (N x ∨ x = w.heap.size + 1) ∨ x = w.heap.size + 1 + 1) w7) (.slice (some ⟨gg, 0, none⟩) (k + 1) cap) FS by rw [hw7]; exact CoSN.set (CoSN.set HDN.out ⟨(w.heap.size + 1 + 1), 9, none⟩ (.inr rfl) _) ⟨(w.heap.size + 1 + 1), 11, none⟩ (.inr rfl) _)
        have HL7 := hid (show Below w.heap.size w w7 by rw [hw7]; exact (HL.out.setCell (p := ⟨(w.heap.size + 1 + 1), 9, none⟩) (by show w.heap.size ≤ w.heap.size + 1 + 1; omega) _).setCell (p := ⟨(w.heap.size + 1 + 1), 11, none⟩) (by show w.heap.size ≤ w.heap.size + 1 + 1; omega) _)
        clear hw7 o0 r0 fr0 o1 r1 fr1 o2 r2 fr2 o3 r3 fr3 o4 r4 fr4 o5 r5 fr5 o6 r6 fr6 o7 r7 fr7 o8 r8 fr8 o9 r9 fr9 o10 r10 fr10 o11 r11 fr11 ofr4 ofr6
        replace HO := HO7
        replace HR := HR7
        replace HPS := HPS7
        replace HL := HL7
        obtain ⟨o0, o1, o2, o3, o4, o5, o6, o7, o8, o9, o10, o11⟩ := HO.out.cs
        (try dsimp only at o0 o1 o2 o3 o4 o5 o6 o7 o8 o9 o10 o11)
        obtain ⟨r0, r1, r2, r3, r4, r5, r6, r7, r8, r9, r10, r11⟩ := HR.out.cs
        (try dsimp only at r0 r1 r2 r3 r4 r5 r6 r7 r8 r9 r10 r11)
        obtain ⟨fr0, fr1, fr2, fr3, fr4, fr5, fr6, fr7, fr8, fr9, fr10, fr11⟩ := HR.out.frs
        go_wp2
        have HPOST := hid (show CoPost N (goC (n + 1) false t l) w (.returned (coV ⟨⟨hd.f0, hd.f1, hd.f2, hd.f3, hd.f4, hd.f5, hd.pair, hd.pl, 2, hd.fl⟩, .slice pb pn pk, .slice (some ⟨gg, 0, none⟩) (k + 1) cap⟩)) (set12 (w7) (w.heap.size + 1) ⟨⟨hd.f0, hd.f1, hd.f2, hd.f3, hd.f4, hd.f5, hd.pair, hd.pl, 2, hd.fl⟩, .slice pb pn pk, .slice (some ⟨gg, 0, none⟩) (k + 1) cap⟩) from by rw [HRES.out, if_pos HF1.out, if_pos HF1.out, HRS.out, ← HA.out, if_neg (by simp), if_neg (by simp), HHD.out.2]; exact ⟨⟨_, rfl, (CoVN.set12 (g := w.heap.size + 1) (CoVN.mk (h := ⟨hd.f0, hd.f1, hd.f2, hd.f3, hd.f4, hd.f5, hd.pair, hd.pl, 2, hd.fl⟩) HPS.out HDN7.out) (.inl (.inr rfl))).mono fun _ _ h => .inl (.inl h)⟩, Below.set12 (g := w.heap.size + 1) HL.out (by omega)⟩)
        refine ret12 (w7) (w.heap.size + 1) ⟨⟨hd.f0, hd.f1, hd.f2, hd.f3, hd.f4, hd.f5, hd.pair, hd.pl, 2, hd.fl⟩, .slice pb pn pk, .slice (some ⟨gg, 0, none⟩) (k + 1) cap⟩ (HR.out) HPOST.out (fun wf hb => ?_) rfl
        obtain ⟨z0, z1, z2, z3, z4, z5, z6, z7, z8, z9, z10, z11⟩ := hb.cs
        simp [results, Tryd.results34, go_sem, coV, z0, z1, z2, z3, z4, z5, z6, z7, z8, z9, z10, z11]
end Go.Proofs.YtlalnkabfigodaaDoor
