import Derived.Test.YtdjhjapfmbcmlaaDoorTyJz
import Derived.Test.YtdjhjapfmbcmlaaDoorTyJo
import Derived.Test.YtdjhjapfmbcmlaaDoorTyD
namespace Go.Proofs.YtdjhjapfmbcmlaaDoor
open Go.RowKit

/-- nothing -/
abbrev N0 : Nat → Prop := fun _ => False
theorem n0 {w : World} : ∀ b, N0 b → b < w.heap.size := fun _ h => h.elim
abbrev tL : Ty := listT (flatT 1)
abbrev tP : Ty := .mk false 0 1 [flatT 1, tyAll] 0 []
abbrev tV : Ty := .mk false 16 1 [flatT 1, tyAll] 0 []
abbrev tF : Ty := .mk false 0 0 [] 1 [tV, tL]
theorem okL : okTy tL := ⟨20, by decide +kernel⟩
theorem okP : okTy tP := ⟨20, by decide +kernel⟩
theorem okV : okTy tV := ⟨20, by decide +kernel⟩
theorem okF : okTy tF := ⟨20, by decide +kernel⟩
theorem ok16 : okTy (flatT 16) := ⟨20, by decide +kernel⟩
theorem flat_n (n m : Int) (h : n % 64 = m) (w : World) : Calls Tryd.prog 22 #[.int .i64 n] w fun e w' => e = .returned (.agg #[.bool false, .int .i64 m, .int .i64 0, .slice none 0 0, .int .i64 0, .slice none 0 0]) ∧ Below w.heap.size w w' := by
  have := flat_p n w
  rw [h] at this
  exact this
theorem flat_v (N : Nat → Prop) (n : Int) (w : World) : TyVN N w (.agg #[.bool false, .int .i64 n, .int .i64 0, .slice none 0 0, .int .i64 0, .slice none 0 0]) (flatT n) := TyVN.mk (.mkNil _ _) (.mkNil _ _)
theorem datum_L (vx : Value) (w : World) (hFN : FN w) (hx : TyVN N0 w vx tL) :
    Calls Tryd.prog 28 #[vx] w fun e w' => (∃ u, e = .returned (.tuple #[u, .int .i64 0]) ∧ DatVN N0 w' u (toldT tL)) ∧ Below w.heap.size w w' := by
  have := datum_p N0 tL vx w (by decide +kernel) okL.rng n0 hFN hx
  rw [show deepF 20 tL = true by decide +kernel, if_pos rfl, if_pos rfl] at this
  exact this
theorem join_V (vx vy : Value) (w : World) (hx : TyVN N0 w vx (flatT 16)) (hy : TyVN N0 w vy tP) : Calls Tryd.prog 18 #[vx, vy] w (TyPost N0 tV w) := by
  have := join_p N0 _ _ vx vy w n0 ok16 okP (by decide +kernel) (by decide +kernel) hx hy
  rw [show joinT (flatT 16) tP = tV by rfl] at this
  exact this
theorem fun_F (vx : Value) (a1 : Option Addr) (c1 : Nat) (w : World) (hx : TyVN N0 w vx tL) (hl : TyS w (Lo N0 w) (.slice a1 1 c1) [tV]) (hn : a1 = none → c1 = 0) : Calls Tryd.prog 26 #[vx, .slice a1 1 c1] w (TyPost N0 tF w) :=
  fun_p N0 tL vx [tV] a1 c1 w n0 hx hl (by decide) hn
theorem cdr_L (vx : Value) (w : World) (hx : TyVN N0 w vx tL) : Calls Tryd.prog 16 #[vx] w (TwPost N0 tL true w) := cdr_p N0 tL vx w n0 hx okL.hd
theorem same_L (vx vy : Value) (w : World) (hx : TyVN N0 w vx tL) (hy : TyVN N0 w vy tL) : Calls Tryd.prog 12 #[vx, vy] w fun e w' => e = .returned (.bool true) ∧ Below w.heap.size w w' := by
  have := same_p tL tL vx vy w (by decide +kernel) hx.v hy.v
  rw [show sameT tL tL = true by decide +kernel] at this
  exact this
theorem sub_LV (vx vy : Value) (w : World) (hx : TyVN N0 w vx tL) (hy : TyVN N0 w vy tV) : Calls Tryd.prog 20 #[vx, vy] w fun e w' => e = .returned (.bool true) ∧ Below w.heap.size w w' := by
  have := sub_p tL tV vx vy w okL okV (by decide +kernel) (by decide +kernel) hx.v hy.v
  rw [show subT tL tV = true by decide +kernel] at this
  exact this
theorem sub_VL (vx vy : Value) (w : World) (hx : TyVN N0 w vx tV) (hy : TyVN N0 w vy tL) : Calls Tryd.prog 20 #[vx, vy] w fun e w' => e = .returned (.bool false) ∧ Below w.heap.size w w' := by
  have := sub_p tV tL vx vy w okV okL (by decide +kernel) (by decide +kernel) hx.v hy.v
  rw [show subT tV tL = false by decide +kernel] at this
  exact this
theorem right_F (vx : Value) (w : World) (hx : TyVN N0 w vx tF) : Calls Tryd.prog 10 #[vx] w fun e w' => e = .returned (.bool true) ∧ Below w.heap.size w w' := by
  have := right_p tF vx w (by decide +kernel) okF.rng hx.v
  rw [show deepF 20 tF = true by decide +kernel] at this
  exact this
theorem read_L (vd : Value) (w : World) (hFN : FN w) (hx : DatVN N0 w vd (toldT tL)) : Calls Tryd.prog 29 #[vd] w (RdPost N0 tL 0 w) :=
  read_p N0 tL vd w (by decide +kernel) (by decide +kernel) (by decide +kernel) n0 hFN hx

set_option maxRecDepth 100000 in
set_option maxHeartbeats 32000000 in
/-- lists of numbers -/
theorem awake_p (w : World) (hFN : FN w) : Calls Tryd.prog 8 #[] w fun e w' => e = .returned (.bool true) ∧ Below w.heap.size w w' := by
  have HFN := Lib.hid hFN
  have HB := Lib.hid (Below.refl w.heap.size w)
  clear hFN
  go_enter Tryd.func8, Tryd.ntmps8
  go_wp2_with fail
  refine (flat_n 1 1 (by decide) w).mono ?_
  rintro e w1 ⟨rfl, hb⟩
  replace HFN := Lib.hid (HFN.out.below hb)
  replace HB := Lib.hid (HB.out.trans (hb.mono HB.out.size))
  clear hb
  go_wp2_with fail
  refine (listof_p N0 (flatT 1) _ w1 n0 (flat_v N0 1 w1)).mono ?_
  rintro e w2 ⟨⟨v, rfl, hv⟩, hb⟩
  obtain ⟨aa, af, ap, apa, anp, apc, ak, afa, anf, afc, rfl⟩ := hv.shape
  have HVV := Lib.hid hv
  clear hv
  replace HFN := Lib.hid (HFN.out.below hb)
  replace HB := Lib.hid (HB.out.trans (hb.mono HB.out.size))
  clear hb
  obtain ⟨W3, hW3⟩ : ∃ W, W = w2.alloc (.cells #[.bool aa, .int .i64 af, .int .i64 ap, (.slice apa anp apc), .int .i64 ak, (.slice afa anf afc)] 24) := ⟨_, rfl⟩
  have hb : Below w2.heap.size w2 W3 := by rw [hW3]; exact (Below.refl _ _).alloc (Nat.le_refl _) _
  have HHW3 := Lib.hid hW3
  clear hW3
  have HBa := Lib.hid (show BoxAt W3 w2.heap.size aa af ap (.slice apa anp apc) ak (.slice afa anf afc) by rw [HHW3.out]; exact BoxAt.made _ _ _ _ _ _ _)
  have HSW3 := Lib.hid (show W3.heap.size = w2.heap.size + 1 by rw [HHW3.out, alloc_hs])
  have HVa := Lib.hid (HVV.out.below hb)
  clear HVV
  replace HFN := Lib.hid (HFN.out.below hb)
  replace HB := Lib.hid (HB.out.trans (hb.mono HB.out.size))
  clear hb
  have a0 := HBa.out.c0
  have a1 := HBa.out.c1
  have a2 := HBa.out.c2
  have a3 := HBa.out.c3
  have a4 := HBa.out.c4
  have a5 := HBa.out.c5
  rw [HHW3.out] at a0 a1 a2 a3 a4 a5
  go_wp2_with fail
  rw [← HHW3.out]
  refine (datum_L _ W3 HFN.out HVa.out).mono ?_
  rintro e w4 ⟨⟨v, rfl, hv⟩, hb⟩
  obtain ⟨da, dn, dc, rfl⟩ := hv.shape
  obtain ⟨dk, hdk⟩ : ∃ k, k = (toldT tL).kind := ⟨_, rfl⟩
  obtain ⟨dt, hdt⟩ : ∃ k, k = (toldT tL).text := ⟨_, rfl⟩
  rw [← hdk, ← hdt] at hv ⊢
  have HVV := Lib.hid hv
  clear hv hdk hdt
  replace HBa := Lib.hid (HBa.out.keep hb)
  replace HVa := Lib.hid (HVa.out.below hb)
  replace HFN := Lib.hid (HFN.out.below hb)
  replace HB := Lib.hid (HB.out.trans (hb.mono HB.out.size))
  clear hb
  obtain ⟨W5, hW5⟩ : ∃ W, W = w4.alloc (.cells #[.int .i64 dk, .string dt, (.slice da dn dc)] 39) := ⟨_, rfl⟩
  have hb : Below w4.heap.size w4 W5 := by rw [hW5]; exact (Below.refl _ _).alloc (Nat.le_refl _) _
  have HHW5 := Lib.hid hW5
  clear hW5
  replace HBa := Lib.hid (HBa.out.keep hb)
  replace HVa := Lib.hid (HVa.out.below hb)
  have HBd := Lib.hid (show DBox W5 w4.heap.size dk dt (.slice da dn dc) by rw [HHW5.out]; exact DBox.made _ _ _ _)
  have HSW5 := Lib.hid (show W5.heap.size = w4.heap.size + 1 by rw [HHW5.out, alloc_hs])
  have HVd := Lib.hid (HVV.out.below hb)
  clear HVV
  replace HFN := Lib.hid (HFN.out.below hb)
  replace HB := Lib.hid (HB.out.trans (hb.mono HB.out.size))
  clear hb
  clear a0 a1 a2 a3 a4 a5
  have d0 := HBd.out.c0
  have d1 := HBd.out.c1
  have d2 := HBd.out.c2
  rw [HHW5.out] at d0 d1 d2
  go_wp2_with fail
  rw [← HHW5.out]
  refine (read_L _ W5 HFN.out HVd.out).mono ?_
  rintro e w6 ⟨⟨v, rfl, hv⟩, hb⟩
  obtain ⟨ba, bf, bp, bpa, bnp, bpc, bk, bfa, bnf, bfc, rfl⟩ := hv.shape
  have HVV := Lib.hid hv
  clear hv
  replace HBa := Lib.hid (HBa.out.keep hb)
  replace HVa := Lib.hid (HVa.out.below hb)
  replace HBd := Lib.hid (HBd.out.keep hb)
  replace HVd := Lib.hid (HVd.out.below hb)
  replace HFN := Lib.hid (HFN.out.below hb)
  replace HB := Lib.hid (HB.out.trans (hb.mono HB.out.size))
  clear hb
  obtain ⟨W7, hW7⟩ : ∃ W, W = w6.alloc (.cells #[.bool ba, .int .i64 bf, .int .i64 bp, (.slice bpa bnp bpc), .int .i64 bk, (.slice bfa bnf bfc)] 24) := ⟨_, rfl⟩
  have hb : Below w6.heap.size w6 W7 := by rw [hW7]; exact (Below.refl _ _).alloc (Nat.le_refl _) _
  have HHW7 := Lib.hid hW7
  clear hW7
  replace HBa := Lib.hid (HBa.out.keep hb)
  replace HVa := Lib.hid (HVa.out.below hb)
  replace HBd := Lib.hid (HBd.out.keep hb)
  replace HVd := Lib.hid (HVd.out.below hb)
  have HBb := Lib.hid (show BoxAt W7 w6.heap.size ba bf bp (.slice bpa bnp bpc) bk (.slice bfa bnf bfc) by rw [HHW7.out]; exact BoxAt.made _ _ _ _ _ _ _)
  have HSW7 := Lib.hid (show W7.heap.size = w6.heap.size + 1 by rw [HHW7.out, alloc_hs])
  have HVb := Lib.hid (HVV.out.below hb)
  clear HVV
  replace HFN := Lib.hid (HFN.out.below hb)
  replace HB := Lib.hid (HB.out.trans (hb.mono HB.out.size))
  clear hb
  clear d0 d1 d2
  go_wp2_with fail
  rw [← HHW7.out]
  refine (flat_n 16 16 (by decide) W7).mono ?_
  rintro e w8 ⟨rfl, hb⟩
  replace HBa := Lib.hid (HBa.out.keep hb)
  replace HVa := Lib.hid (HVa.out.below hb)
  replace HBd := Lib.hid (HBd.out.keep hb)
  replace HVd := Lib.hid (HVd.out.below hb)
  replace HBb := Lib.hid (HBb.out.keep hb)
  replace HVb := Lib.hid (HVb.out.below hb)
  replace HFN := Lib.hid (HFN.out.below hb)
  replace HB := Lib.hid (HB.out.trans (hb.mono HB.out.size))
  clear hb
  go_wp2_with fail
  refine (flat_n 1 1 (by decide) w8).mono ?_
  rintro e w9 ⟨rfl, hb⟩
  replace HBa := Lib.hid (HBa.out.keep hb)
  replace HVa := Lib.hid (HVa.out.below hb)
  replace HBd := Lib.hid (HBd.out.keep hb)
  replace HVd := Lib.hid (HVd.out.below hb)
  replace HBb := Lib.hid (HBb.out.keep hb)
  replace HVb := Lib.hid (HVb.out.below hb)
  replace HFN := Lib.hid (HFN.out.below hb)
  replace HB := Lib.hid (HB.out.trans (hb.mono HB.out.size))
  clear hb
  go_wp2_with fail
  refine (all_p w9).mono ?_
  rintro e w10 ⟨rfl, hb⟩
  replace HBa := Lib.hid (HBa.out.keep hb)
  replace HVa := Lib.hid (HVa.out.below hb)
  replace HBd := Lib.hid (HBd.out.keep hb)
  replace HVd := Lib.hid (HVd.out.below hb)
  replace HBb := Lib.hid (HBb.out.keep hb)
  replace HVb := Lib.hid (HVb.out.below hb)
  replace HFN := Lib.hid (HFN.out.below hb)
  replace HB := Lib.hid (HB.out.trans (hb.mono HB.out.size))
  clear hb
  go_wp2_with fail
  refine (pair_p N0 (flatT 1) tyAll _ _ w10 n0 (flat_v N0 1 _) (tyAll_v N0 _)).mono ?_
  rintro e w11 ⟨⟨v, rfl, hv⟩, hb⟩
  obtain ⟨pa, pf, pp, ppa, pnp, ppc, pk, pfa, pnf, pfc, rfl⟩ := hv.shape
  have HVV := Lib.hid hv
  clear hv
  replace HBa := Lib.hid (HBa.out.keep hb)
  replace HVa := Lib.hid (HVa.out.below hb)
  replace HBd := Lib.hid (HBd.out.keep hb)
  replace HVd := Lib.hid (HVd.out.below hb)
  replace HBb := Lib.hid (HBb.out.keep hb)
  replace HVb := Lib.hid (HVb.out.below hb)
  replace HFN := Lib.hid (HFN.out.below hb)
  replace HB := Lib.hid (HB.out.trans (hb.mono HB.out.size))
  clear hb
  go_wp2_with fail
  refine (join_V _ _ w11 (flat_v N0 16 _) HVV.out).mono ?_
  rintro e w12 ⟨⟨v, rfl, hv⟩, hb⟩
  obtain ⟨ca, cf, cp, cpa, cnp, cpc, ck, cfa, cnf, cfc, rfl⟩ := hv.shape
  replace HVV := Lib.hid hv
  clear hv
  replace HBa := Lib.hid (HBa.out.keep hb)
  replace HVa := Lib.hid (HVa.out.below hb)
  replace HBd := Lib.hid (HBd.out.keep hb)
  replace HVd := Lib.hid (HVd.out.below hb)
  replace HBb := Lib.hid (HBb.out.keep hb)
  replace HVb := Lib.hid (HVb.out.below hb)
  replace HFN := Lib.hid (HFN.out.below hb)
  replace HB := Lib.hid (HB.out.trans (hb.mono HB.out.size))
  clear hb
  obtain ⟨W13, hW13⟩ : ∃ W, W = w12.alloc (.cells #[.bool ca, .int .i64 cf, .int .i64 cp, (.slice cpa cnp cpc), .int .i64 ck, (.slice cfa cnf cfc)] 24) := ⟨_, rfl⟩
  have hb : Below w12.heap.size w12 W13 := by rw [hW13]; exact (Below.refl _ _).alloc (Nat.le_refl _) _
  have HHW13 := Lib.hid hW13
  clear hW13
  replace HBa := Lib.hid (HBa.out.keep hb)
  replace HVa := Lib.hid (HVa.out.below hb)
  replace HBd := Lib.hid (HBd.out.keep hb)
  replace HVd := Lib.hid (HVd.out.below hb)
  replace HBb := Lib.hid (HBb.out.keep hb)
  replace HVb := Lib.hid (HVb.out.below hb)
  have HBc := Lib.hid (show BoxAt W13 w12.heap.size ca cf cp (.slice cpa cnp cpc) ck (.slice cfa cnf cfc) by rw [HHW13.out]; exact BoxAt.made _ _ _ _ _ _ _)
  have HSW13 := Lib.hid (show W13.heap.size = w12.heap.size + 1 by rw [HHW13.out, alloc_hs])
  have HVc := Lib.hid (HVV.out.below hb)
  clear HVV
  replace HFN := Lib.hid (HFN.out.below hb)
  replace HB := Lib.hid (HB.out.trans (hb.mono HB.out.size))
  clear hb
  have a0 := HBa.out.c0
  have a1 := HBa.out.c1
  have a2 := HBa.out.c2
  have a3 := HBa.out.c3
  have a4 := HBa.out.c4
  have a5 := HBa.out.c5
  have c0 := HBc.out.c0
  have c1 := HBc.out.c1
  have c2 := HBc.out.c2
  have c3 := HBc.out.c3
  have c4 := HBc.out.c4
  have c5 := HBc.out.c5
  rw [HHW13.out] at a0 a1 a2 a3 a4 a5 c0 c1 c2 c3 c4 c5
  have HSL := Lib.hid (show TyS (W13.alloc (.cells #[.bool ca, .int .i64 cf, .int .i64 cp, (.slice cpa cnp cpc), .int .i64 ck, (.slice cfa cnf cfc)] 24)) (Lo N0 (W13.alloc (.cells #[.bool ca, .int .i64 cf, .int .i64 cp, (.slice cpa cnp cpc), .int .i64 ck, (.slice cfa cnf cfc)] 24))) (.slice (some ⟨W13.heap.size, 0, none⟩) 1 1) [tV] from TyS.one (fun _ h => h.elim) (TyVN.raw HVc.out))
  obtain ⟨W14, hW14⟩ : ∃ W, W = W13.alloc (.cells #[.bool ca, .int .i64 cf, .int .i64 cp, (.slice cpa cnp cpc), .int .i64 ck, (.slice cfa cnf cfc)] 24) := ⟨_, rfl⟩
  have hb : Below W13.heap.size W13 W14 := by rw [hW14]; exact (Below.refl _ _).alloc (Nat.le_refl _) _
  have HHW14 := Lib.hid hW14
  clear hW14
  replace HBa := Lib.hid (HBa.out.keep hb)
  replace HVa := Lib.hid (HVa.out.below hb)
  replace HBd := Lib.hid (HBd.out.keep hb)
  replace HVd := Lib.hid (HVd.out.below hb)
  replace HBb := Lib.hid (HBb.out.keep hb)
  replace HVb := Lib.hid (HVb.out.below hb)
  replace HBc := Lib.hid (HBc.out.keep hb)
  replace HVc := Lib.hid (HVc.out.below hb)
  replace HFN := Lib.hid (HFN.out.below hb)
  replace HB := Lib.hid (HB.out.trans (hb.mono HB.out.size))
  clear hb
  have HTW14 := HHW14.out
  rw [HHW13.out] at HTW14
  have HUW14 := Lib.hid HTW14
  clear HTW14
  replace HSL := Lib.hid (show TyS W14 (Lo N0 W14) (.slice (some ⟨W13.heap.size, 0, none⟩) 1 1) [tV] by rw [HHW14.out]; exact HSL.out)
  have HGG := Lib.hid (show W13.heap.size = w12.heap.size + 1 by rw [HHW13.out]; exact alloc_hs _ _)
  replace HSL := Lib.hid (by have h := HSL.out; rw [HGG.out] at h; exact h)
  go_wp2_with fail
  rw [← HUW14.out]
  refine (fun_F _ _ _ W14 HVa.out HSL.out (fun h => by cases h)).mono ?_
  rintro e w15 ⟨⟨v, rfl, hv⟩, hb⟩
  obtain ⟨fa, ff, fp, fpa, fnp, fpc, fk, ffa, fnf, ffc, rfl⟩ := hv.shape
  have HVV := Lib.hid hv
  clear hv HSL HGG
  replace HBa := Lib.hid (HBa.out.keep hb)
  replace HVa := Lib.hid (HVa.out.below hb)
  replace HBd := Lib.hid (HBd.out.keep hb)
  replace HVd := Lib.hid (HVd.out.below hb)
  replace HBb := Lib.hid (HBb.out.keep hb)
  replace HVb := Lib.hid (HVb.out.below hb)
  replace HBc := Lib.hid (HBc.out.keep hb)
  replace HVc := Lib.hid (HVc.out.below hb)
  replace HFN := Lib.hid (HFN.out.below hb)
  replace HB := Lib.hid (HB.out.trans (hb.mono HB.out.size))
  clear hb
  obtain ⟨W16, hW16⟩ : ∃ W, W = w15.alloc (.cells #[.bool fa, .int .i64 ff, .int .i64 fp, (.slice fpa fnp fpc), .int .i64 fk, (.slice ffa fnf ffc)] 24) := ⟨_, rfl⟩
  have hb : Below w15.heap.size w15 W16 := by rw [hW16]; exact (Below.refl _ _).alloc (Nat.le_refl _) _
  have HHW16 := Lib.hid hW16
  clear hW16
  replace HBa := Lib.hid (HBa.out.keep hb)
  replace HVa := Lib.hid (HVa.out.below hb)
  replace HBd := Lib.hid (HBd.out.keep hb)
  replace HVd := Lib.hid (HVd.out.below hb)
  replace HBb := Lib.hid (HBb.out.keep hb)
  replace HVb := Lib.hid (HVb.out.below hb)
  replace HBc := Lib.hid (HBc.out.keep hb)
  replace HVc := Lib.hid (HVc.out.below hb)
  have HBf := Lib.hid (show BoxAt W16 w15.heap.size fa ff fp (.slice fpa fnp fpc) fk (.slice ffa fnf ffc) by rw [HHW16.out]; exact BoxAt.made _ _ _ _ _ _ _)
  have HSW16 := Lib.hid (show W16.heap.size = w15.heap.size + 1 by rw [HHW16.out, alloc_hs])
  have HVf := Lib.hid (HVV.out.below hb)
  clear HVV
  replace HFN := Lib.hid (HFN.out.below hb)
  replace HB := Lib.hid (HB.out.trans (hb.mono HB.out.size))
  clear hb
  clear a0 a1 a2 a3 a4 a5 c0 c1 c2 c3 c4 c5
  have a0 := HBa.out.c0
  have a1 := HBa.out.c1
  have a2 := HBa.out.c2
  have a3 := HBa.out.c3
  have a4 := HBa.out.c4
  have a5 := HBa.out.c5
  rw [HHW16.out] at a0 a1 a2 a3 a4 a5
  go_wp2_with fail
  rw [← HHW16.out]
  refine (cdr_L _ W16 HVa.out).mono ?_
  rintro e w17 ⟨⟨v, rfl, hv⟩, hb⟩
  obtain ⟨xa, xf, xp, xpa, xnp, xpc, xk, xfa, xnf, xfc, rfl⟩ := hv.shape
  have HVV := Lib.hid hv
  clear hv
  replace HBa := Lib.hid (HBa.out.keep hb)
  replace HVa := Lib.hid (HVa.out.below hb)
  replace HBd := Lib.hid (HBd.out.keep hb)
  replace HVd := Lib.hid (HVd.out.below hb)
  replace HBb := Lib.hid (HBb.out.keep hb)
  replace HVb := Lib.hid (HVb.out.below hb)
  replace HBc := Lib.hid (HBc.out.keep hb)
  replace HVc := Lib.hid (HVc.out.below hb)
  replace HBf := Lib.hid (HBf.out.keep hb)
  replace HVf := Lib.hid (HVf.out.below hb)
  replace HFN := Lib.hid (HFN.out.below hb)
  replace HB := Lib.hid (HB.out.trans (hb.mono HB.out.size))
  clear hb
  obtain ⟨W18, hW18⟩ : ∃ W, W = w17.alloc (.cells #[.bool xa, .int .i64 xf, .int .i64 xp, (.slice xpa xnp xpc), .int .i64 xk, (.slice xfa xnf xfc)] 24) := ⟨_, rfl⟩
  have hb : Below w17.heap.size w17 W18 := by rw [hW18]; exact (Below.refl _ _).alloc (Nat.le_refl _) _
  have HHW18 := Lib.hid hW18
  clear hW18
  replace HBa := Lib.hid (HBa.out.keep hb)
  replace HVa := Lib.hid (HVa.out.below hb)
  replace HBd := Lib.hid (HBd.out.keep hb)
  replace HVd := Lib.hid (HVd.out.below hb)
  replace HBb := Lib.hid (HBb.out.keep hb)
  replace HVb := Lib.hid (HVb.out.below hb)
  replace HBc := Lib.hid (HBc.out.keep hb)
  replace HVc := Lib.hid (HVc.out.below hb)
  replace HBf := Lib.hid (HBf.out.keep hb)
  replace HVf := Lib.hid (HVf.out.below hb)
  have HBx := Lib.hid (show BoxAt W18 w17.heap.size xa xf xp (.slice xpa xnp xpc) xk (.slice xfa xnf xfc) by rw [HHW18.out]; exact BoxAt.made _ _ _ _ _ _ _)
  have HSW18 := Lib.hid (show W18.heap.size = w17.heap.size + 1 by rw [HHW18.out, alloc_hs])
  have HVx := Lib.hid (HVV.out.below hb)
  clear HVV
  replace HFN := Lib.hid (HFN.out.below hb)
  replace HB := Lib.hid (HB.out.trans (hb.mono HB.out.size))
  clear hb
  clear a0 a1 a2 a3 a4 a5
  have a0 := HBa.out.c0
  have a1 := HBa.out.c1
  have a2 := HBa.out.c2
  have a3 := HBa.out.c3
  have a4 := HBa.out.c4
  have a5 := HBa.out.c5
  have b0 := HBb.out.c0
  have b1 := HBb.out.c1
  have b2 := HBb.out.c2
  have b3 := HBb.out.c3
  have b4 := HBb.out.c4
  have b5 := HBb.out.c5
  rw [HHW18.out] at a0 a1 a2 a3 a4 a5 b0 b1 b2 b3 b4 b5
  go_wp2_with fail
  rw [← HHW18.out]
  refine (same_L _ _ W18 HVa.out HVb.out).mono ?_
  rintro e w19 ⟨rfl, hb⟩
  replace HBa := Lib.hid (HBa.out.keep hb)
  replace HVa := Lib.hid (HVa.out.below hb)
  replace HBd := Lib.hid (HBd.out.keep hb)
  replace HVd := Lib.hid (HVd.out.below hb)
  replace HBb := Lib.hid (HBb.out.keep hb)
  replace HVb := Lib.hid (HVb.out.below hb)
  replace HBc := Lib.hid (HBc.out.keep hb)
  replace HVc := Lib.hid (HVc.out.below hb)
  replace HBf := Lib.hid (HBf.out.keep hb)
  replace HVf := Lib.hid (HVf.out.below hb)
  replace HBx := Lib.hid (HBx.out.keep hb)
  replace HVx := Lib.hid (HVx.out.below hb)
  replace HFN := Lib.hid (HFN.out.below hb)
  replace HB := Lib.hid (HB.out.trans (hb.mono HB.out.size))
  clear hb
  clear a0 a1 a2 a3 a4 a5 b0 b1 b2 b3 b4 b5
  have a0 := HBa.out.c0
  have a1 := HBa.out.c1
  have a2 := HBa.out.c2
  have a3 := HBa.out.c3
  have a4 := HBa.out.c4
  have a5 := HBa.out.c5
  have c0 := HBc.out.c0
  have c1 := HBc.out.c1
  have c2 := HBc.out.c2
  have c3 := HBc.out.c3
  have c4 := HBc.out.c4
  have c5 := HBc.out.c5
  go_wp2_with fail
  refine (sub_LV _ _ w19 HVa.out HVc.out).mono ?_
  rintro e w20 ⟨rfl, hb⟩
  replace HBa := Lib.hid (HBa.out.keep hb)
  replace HVa := Lib.hid (HVa.out.below hb)
  replace HBd := Lib.hid (HBd.out.keep hb)
  replace HVd := Lib.hid (HVd.out.below hb)
  replace HBb := Lib.hid (HBb.out.keep hb)
  replace HVb := Lib.hid (HVb.out.below hb)
  replace HBc := Lib.hid (HBc.out.keep hb)
  replace HVc := Lib.hid (HVc.out.below hb)
  replace HBf := Lib.hid (HBf.out.keep hb)
  replace HVf := Lib.hid (HVf.out.below hb)
  replace HBx := Lib.hid (HBx.out.keep hb)
  replace HVx := Lib.hid (HVx.out.below hb)
  replace HFN := Lib.hid (HFN.out.below hb)
  replace HB := Lib.hid (HB.out.trans (hb.mono HB.out.size))
  clear hb
  clear a0 a1 a2 a3 a4 a5 c0 c1 c2 c3 c4 c5
  have c0 := HBc.out.c0
  have c1 := HBc.out.c1
  have c2 := HBc.out.c2
  have c3 := HBc.out.c3
  have c4 := HBc.out.c4
  have c5 := HBc.out.c5
  have a0 := HBa.out.c0
  have a1 := HBa.out.c1
  have a2 := HBa.out.c2
  have a3 := HBa.out.c3
  have a4 := HBa.out.c4
  have a5 := HBa.out.c5
  go_wp2_with fail
  refine (sub_VL _ _ w20 HVc.out HVa.out).mono ?_
  rintro e w21 ⟨rfl, hb⟩
  replace HBa := Lib.hid (HBa.out.keep hb)
  replace HVa := Lib.hid (HVa.out.below hb)
  replace HBd := Lib.hid (HBd.out.keep hb)
  replace HVd := Lib.hid (HVd.out.below hb)
  replace HBb := Lib.hid (HBb.out.keep hb)
  replace HVb := Lib.hid (HVb.out.below hb)
  replace HBc := Lib.hid (HBc.out.keep hb)
  replace HVc := Lib.hid (HVc.out.below hb)
  replace HBf := Lib.hid (HBf.out.keep hb)
  replace HVf := Lib.hid (HVf.out.below hb)
  replace HBx := Lib.hid (HBx.out.keep hb)
  replace HVx := Lib.hid (HVx.out.below hb)
  replace HFN := Lib.hid (HFN.out.below hb)
  replace HB := Lib.hid (HB.out.trans (hb.mono HB.out.size))
  clear hb
  clear c0 c1 c2 c3 c4 c5 a0 a1 a2 a3 a4 a5
  have f0 := HBf.out.c0
  have f1 := HBf.out.c1
  have f2 := HBf.out.c2
  have f3 := HBf.out.c3
  have f4 := HBf.out.c4
  have f5 := HBf.out.c5
  go_wp2_with fail
  refine (right_F _ w21 HVf.out).mono ?_
  rintro e w22 ⟨rfl, hb⟩
  replace HBa := Lib.hid (HBa.out.keep hb)
  replace HVa := Lib.hid (HVa.out.below hb)
  replace HBd := Lib.hid (HBd.out.keep hb)
  replace HVd := Lib.hid (HVd.out.below hb)
  replace HBb := Lib.hid (HBb.out.keep hb)
  replace HVb := Lib.hid (HVb.out.below hb)
  replace HBc := Lib.hid (HBc.out.keep hb)
  replace HVc := Lib.hid (HVc.out.below hb)
  replace HBf := Lib.hid (HBf.out.keep hb)
  replace HVf := Lib.hid (HVf.out.below hb)
  replace HBx := Lib.hid (HBx.out.keep hb)
  replace HVx := Lib.hid (HVx.out.below hb)
  replace HFN := Lib.hid (HFN.out.below hb)
  replace HB := Lib.hid (HB.out.trans (hb.mono HB.out.size))
  clear hb
  clear f0 f1 f2 f3 f4 f5
  have f0 := HBf.out.c0
  have f1 := HBf.out.c1
  have f2 := HBf.out.c2
  have f3 := HBf.out.c3
  have f4 := HBf.out.c4
  have f5 := HBf.out.c5
  have x0 := HBx.out.c0
  have x1 := HBx.out.c1
  have x2 := HBx.out.c2
  have x3 := HBx.out.c3
  have x4 := HBx.out.c4
  have x5 := HBx.out.c5
  have a0 := HBa.out.c0
  have a1 := HBa.out.c1
  have a2 := HBa.out.c2
  have a3 := HBa.out.c3
  have a4 := HBa.out.c4
  have a5 := HBa.out.c5
  have hfl : fnf = 2 := by
    obtain ⟨_, _, _, _, e, _⟩ := HVf.out.form
    simp only [Value.agg.injEq, Array.mk.injEq, List.cons.injEq, Value.slice.injEq] at e
    exact e.2.2.2.2.2.1.2.1
  subst hfl
  go_wp2_with fail
  refine (same_L _ _ w22 HVx.out HVa.out).mono ?_
  rintro e w23 ⟨rfl, hb⟩
  replace HBa := Lib.hid (HBa.out.keep hb)
  replace HVa := Lib.hid (HVa.out.below hb)
  replace HBd := Lib.hid (HBd.out.keep hb)
  replace HVd := Lib.hid (HVd.out.below hb)
  replace HBb := Lib.hid (HBb.out.keep hb)
  replace HVb := Lib.hid (HVb.out.below hb)
  replace HBc := Lib.hid (HBc.out.keep hb)
  replace HVc := Lib.hid (HVc.out.below hb)
  replace HBf := Lib.hid (HBf.out.keep hb)
  replace HVf := Lib.hid (HVf.out.below hb)
  replace HBx := Lib.hid (HBx.out.keep hb)
  replace HVx := Lib.hid (HVx.out.below hb)
  replace HFN := Lib.hid (HFN.out.below hb)
  replace HB := Lib.hid (HB.out.trans (hb.mono HB.out.size))
  clear hb
  clear f0 f1 f2 f3 f4 f5 x0 x1 x2 x3 x4 x5 a0 a1 a2 a3 a4 a5
  go_wp2
  go_ret
  exact ⟨rfl, HB.out⟩
end Go.Proofs.YtdjhjapfmbcmlaaDoor
namespace Go.Proofs.YtdjhjapfmbcmlaaDoor
open Go.RowKit

theorem szDs_app (l m : List Dat) : szDs (l ++ m) = szDs l + szDs m := by
  induction l with
  | nil => simp [szDs]
  | cons d r ih => rw [List.cons_append, szDs, szDs, ih]; omega
theorem szD_sym (s : List UInt8) : szD (symD s) = 1 := by simp [symD, szD, szDs]
theorem szD_row (s : List UInt8) (l : List Dat) : szD (rowD s l) = 2 + szDs l := by rw [rowD, szD, szDs, szD_sym]; omega
theorem szD_one (l : List Dat) : szD (oneD l) ≤ 2 + szDs l := by
  match l with
  | [] => rw [oneD, szD_sym]; omega
  | [d] => show szD d ≤ _; rw [szDs, szDs]; omega
  | a :: b :: r => show szD (rowD nU (a :: b :: r)) ≤ _; rw [szD_row]; omega
theorem szDs_if (b : Bool) (s : List UInt8) : szDs (if b then [symD s] else []) ≤ 1 := by
  cases b with
  | true => rw [if_pos rfl, szDs, szD_sym, szDs]; omega
  | false => simp [szDs]
theorem szDs_names (f : Int) (n : Bool) : szDs (namesD f n) ≤ 6 := by
  unfold namesD
  rw [szDs_app, szDs_app, szDs_app, szDs_app, szDs_app]
  have := szDs_if (bitOf f 1) nInt
  have := szDs_if (bitOf f 2) nBool
  have := szDs_if (bitOf f 4) nStr
  have := szDs_if (bitOf f 8) nSym
  have := szDs_if (bitOf f 16 && !n) nNull
  have := szDs_if (bitOf f 32) nVoid
  omega
theorem told_szs : ∀ (l : List Ty), (∀ x ∈ l, szD (toldT x) ≤ 12 * szT x) → szDs (toldL l) ≤ 12 * szTs l
  | [], _ => by rw [toldL, szDs, szTs]; omega
  | t :: r, h => by
    have h1 := h t (List.mem_cons_self ..)
    have h2 := told_szs r fun x hx => h x (List.mem_cons_of_mem _ hx)
    rw [toldL, szDs, szTs]; omega
theorem told_sz (t : Ty) : szD (toldT t) ≤ 12 * szT t := by
  induction t using ty_ind with
  | h t ihp ihf =>
    have h1 := told_szs t.pairs ihp
    have h2 := told_szs t.funs ihf
    rw [toldT_eq, szT_eq]
    split
    · rw [szD_sym]; omega
    · refine Nat.le_trans (szD_one _) ?_
      rw [szDs_app, szDs_app]
      have h3 := szDs_names t.flat (t.pair == 2)
      have h4 : szDs (if t.pair = 1 then [rowD nPair (toldL t.pairs)] else if t.pair = 2 then (if bitOf t.flat 16 then [rowD nList (toldL t.pairs)] else [rowD nList1 (toldL t.pairs)]) else []) ≤ 2 + szDs (toldL t.pairs) := by
        split
        · rw [szDs, szD_row, szDs]; omega
        · split
          · split
            · rw [szDs, szD_row, szDs]; omega
            · rw [szDs, szD_row, szDs]; omega
          · rw [szDs]; omega
      have h5 : szDs (if t.fn = 1 then [rowD nArrow (toldL t.funs)] else if t.fn = 2 then [symD nProc] else []) ≤ 2 + szDs (toldL t.funs) := by
        split
        · rw [szDs, szD_row, szDs]; omega
        · split
          · rw [szDs, szD_sym, szDs]; omega
          · rw [szDs]; omega
      omega
/-- a slice of three types, just laid -/
theorem TyS.three_alloc {w : World} {a a' a'' : Bool} {f f' f'' p p' p'' k k' k'' : Int} {pv pv' pv'' fv fv' fv'' : Value} {t u v : Ty}
    (h1 : TyVN N0 w (.agg #[.bool a, .int .i64 f, .int .i64 p, pv, .int .i64 k, fv]) t) (h2 : TyVN N0 w (.agg #[.bool a', .int .i64 f', .int .i64 p', pv', .int .i64 k', fv']) u) (h3 : TyVN N0 w (.agg #[.bool a'', .int .i64 f'', .int .i64 p'', pv'', .int .i64 k'', fv'']) v) :
    TyS (w.alloc (.cells #[.bool a, .int .i64 f, .int .i64 p, pv, .int .i64 k, fv, .bool a', .int .i64 f', .int .i64 p', pv', .int .i64 k', fv', .bool a'', .int .i64 f'', .int .i64 p'', pv'', .int .i64 k'', fv''] 24)) (Lo N0 (w.alloc (.cells #[.bool a, .int .i64 f, .int .i64 p, pv, .int .i64 k, fv, .bool a', .int .i64 f', .int .i64 p', pv', .int .i64 k', fv', .bool a'', .int .i64 f'', .int .i64 p'', pv'', .int .i64 k'', fv''] 24))) (.slice (some ⟨w.heap.size, 0, none⟩) 3 3) [t, u, v] := by
  obtain ⟨W, hW⟩ : ∃ W, W = w.alloc (.cells #[.bool a, .int .i64 f, .int .i64 p, pv, .int .i64 k, fv, .bool a', .int .i64 f', .int .i64 p', pv', .int .i64 k', fv', .bool a'', .int .i64 f'', .int .i64 p'', pv'', .int .i64 k'', fv''] 24) := ⟨_, rfl⟩
  have hh : W.heap[w.heap.size]? = some (.cells #[.bool a, .int .i64 f, .int .i64 p, pv, .int .i64 k, fv, .bool a', .int .i64 f', .int .i64 p', pv', .int .i64 k', fv', .bool a'', .int .i64 f'', .int .i64 p'', pv'', .int .i64 k'', fv''] 24 (0, 0)) := by rw [hW]; exact heap_alloc_new _ _
  have hb : Below w.heap.size w W := by rw [hW]; exact (Below.refl _ _).alloc (Nat.le_refl _) _
  have g1 := (h1.below hb).raw
  have g2 := (h2.below hb).raw
  have g3 := (h3.below hb).raw
  rw [← hW]
  refine TyS.mk (l := [t, u, v]) (rs := [⟨a, f, p, pv, k, fv⟩, ⟨a', f', p', pv', k', fv'⟩, ⟨a'', f'', p'', pv'', k'', fv''⟩]) ⟨(Array.getElem?_eq_some_iff.1 hh).1, id⟩ (by unfold maxLen; simp) (fun j hj => ?_) ⟨rfl, fun j hj => ?_⟩ (Nat.le_refl _)
  · obtain rfl | rfl | rfl : j = 0 ∨ j = 1 ∨ j = 2 := by simp at hj; omega
    · exact ⟨Lib.cell_of_heap hh 0, Lib.cell_of_heap hh 1, Lib.cell_of_heap hh 2, Lib.cell_of_heap hh 3, Lib.cell_of_heap hh 4, Lib.cell_of_heap hh 5⟩
    · exact ⟨Lib.cell_of_heap hh 6, Lib.cell_of_heap hh 7, Lib.cell_of_heap hh 8, Lib.cell_of_heap hh 9, Lib.cell_of_heap hh 10, Lib.cell_of_heap hh 11⟩
    · exact ⟨Lib.cell_of_heap hh 12, Lib.cell_of_heap hh 13, Lib.cell_of_heap hh 14, Lib.cell_of_heap hh 15, Lib.cell_of_heap hh 16, Lib.cell_of_heap hh 17⟩
  · obtain rfl | rfl | rfl : j = 0 ∨ j = 1 ∨ j = 2 := by simp at hj; omega
    · exact g1
    · exact g2
    · exact g3
theorem fun_two (x y : Ty) (vx : Value) (a1 : Option Addr) (c1 : Nat) (w : World) (hx : TyVN N0 w vx x) (hl : TyS w (Lo N0 w) (.slice a1 2 c1) [y, y]) (hn : a1 = none → c1 = 0) : Calls Tryd.prog 26 #[vx, .slice a1 2 c1] w (TyPost N0 (.mk false 0 0 [] 1 [y, y, x]) w) :=
  fun_p N0 x vx [y, y] a1 c1 w n0 hx hl (by simp) hn
theorem mul_light {a b : Nat} (ha : a ≤ 300) (hb : b ≤ 300) : a * b ≤ 131072 := Nat.le_trans (Nat.mul_le_mul ha hb) (by decide)
theorem sub_l (x y : Ty) (vx vy : Value) (w : World) (okx : okTy x) (oky : okTy y) (hx' : szT x ≤ 300) (hy' : szT y ≤ 300) (hx : TyVN N0 w vx x) (hy : TyVN N0 w vy y) :
    Calls Tryd.prog 20 #[vx, vy] w fun e w' => e = .returned (.bool (subT x y)) ∧ Below w.heap.size w w' :=
  sub_p x y vx vy w okx oky (mul_light hx' hy') (by omega) hx.v hy.v
theorem sub_y (x y : Ty) (h : subT x y = true) (vx vy : Value) (w : World) (okx : okTy x) (oky : okTy y) (hx' : szT x ≤ 300) (hy' : szT y ≤ 300) (hx : TyVN N0 w vx x) (hy : TyVN N0 w vy y) :
    Calls Tryd.prog 20 #[vx, vy] w fun e w' => e = .returned (.bool true) ∧ Below w.heap.size w w' := by
  have := sub_l x y vx vy w okx oky hx' hy' hx hy
  rw [h] at this
  exact this
theorem join_l (x y : Ty) (vx vy : Value) (w : World) (okx : okTy x) (oky : okTy y) (hx' : szT x ≤ 300) (hy' : szT y ≤ 300) (hx : TyVN N0 w vx x) (hy : TyVN N0 w vy y) : Calls Tryd.prog 18 #[vx, vy] w (TyPost N0 (joinT x y) w) :=
  join_p N0 x y vx vy w n0 okx oky (mul_light hx' hy') (by omega) hx hy
theorem join_e (x y z : Ty) (h : joinT x y = z) (vx vy : Value) (w : World) (okx : okTy x) (oky : okTy y) (hx' : szT x ≤ 300) (hy' : szT y ≤ 300) (hx : TyVN N0 w vx x) (hy : TyVN N0 w vy y) : Calls Tryd.prog 18 #[vx, vy] w (TyPost N0 z w) := by
  have := join_l x y vx vy w okx oky hx' hy' hx hy
  rw [h] at this
  exact this
theorem same_y (x : Ty) (vx vy : Value) (w : World) (hx : TyVN N0 w vx x) (hy : TyVN N0 w vy x) : Calls Tryd.prog 13 #[vx, vy] w fun e w' => e = .returned (.bool true) ∧ Below w.heap.size w w' := by
  have := same_any x x vx vy w hx.v hy.v
  rw [(sameT_iff x x).2 rfl] at this
  exact this
theorem right_l (x : Ty) (vx : Value) (w : World) (hk : szT x ≤ 300) (hrng : RngT x) (hx : TyVN N0 w vx x) : Calls Tryd.prog 10 #[vx] w fun e w' => e = .returned (.bool (deepF 20 x)) ∧ Below w.heap.size w w' := right_p x vx w hk hrng hx.v
theorem right_sz {t : Ty} (h : rightT t = true) : szT t ≤ 300 := by
  unfold rightT at h
  rw [Bool.and_eq_true, decide_eq_true_iff] at h
  rw [← sizeS_exact 60 t (by omega)]; exact h.1
theorem same_self (t : Ty) : sameT t t = true := (sameT_iff t t).2 rfl
end Go.Proofs.YtdjhjapfmbcmlaaDoor
