import Derived.Test.YtdjhjapfmbcmlaaDoorTyN
namespace Go.Proofs.YtdjhjapfmbcmlaaDoor
open Go.RowKit

set_option maxRecDepth 100000 in
set_option maxHeartbeats 4000000 in
theorem listof_any (N : Nat → Prop) (t : Ty) (v : Value) (w : World) (hN : ∀ b, N b → b < w.heap.size) (hv : TyVN N w v t) : Calls Tryd.prog 24 #[v] w (TyPost N (listT t) w) := by
  obtain ⟨r, rfl, hr⟩ := hv
  obtain ⟨ra, rf, rp, pv, rn, fv⟩ := r
  obtain ⟨pa, pc, rfl⟩ : ∃ a c, pv = .slice a t.pairs.length c := hr.pv.val
  obtain ⟨fa, fc, rfl⟩ : ∃ a c, fv = .slice a t.funs.length c := hr.fv.val
  obtain ⟨np, hnp⟩ : ∃ n, n = t.pairs.length := ⟨_, rfl⟩
  obtain ⟨nf, hnf⟩ : ∃ n, n = t.funs.length := ⟨_, rfl⟩
  rw [← hnp, ← hnf] at hr ⊢
  have HR := Lib.hid hr
  have HN := Lib.hid hN
  clear hr hnp hnf hN
  simp only [rawV]
  go_enter Tryd.func24, Tryd.ntmps24
  go_wp2
  refine bodyPost_ret (v := .agg #[.bool false, .int .i64 16, .int .i64 2, .slice (some ⟨w.heap.size + 1 + 1, 0, none⟩) 1 1, .int .i64 0, .slice none 0 0]) ?_ ?_ ?_
  · simp [results, Tryd.results24, go_sem]
  · rfl
  · have hb : Below w.heap.size w ((w.alloc (.cells #[.bool ra, .int .i64 rf, .int .i64 rp, .slice pa np pc, .int .i64 rn, .slice fa nf fc] 24)).alloc (.cells #[.bool false, .int .i64 16, .int .i64 2, .slice (some ⟨w.heap.size + 1 + 1, 0, none⟩) 1 1, .int .i64 0, .slice none 0 0] 24)) := ((Below.refl _ _).alloc (Nat.le_refl _) _).alloc (by simp) _
    have h0 := HR.out.mono (w' := (w.alloc (.cells #[.bool ra, .int .i64 rf, .int .i64 rp, .slice pa np pc, .int .i64 rn, .slice fa nf fc] 24)).alloc (.cells #[.bool false, .int .i64 16, .int .i64 2, .slice (some ⟨w.heap.size + 1 + 1, 0, none⟩) 1 1, .int .i64 0, .slice none 0 0] 24)) (ok' := Lo N ((w.alloc (.cells #[.bool ra, .int .i64 rf, .int .i64 rp, .slice pa np pc, .int .i64 rn, .slice fa nf fc] 24)).alloc (.cells #[.bool false, .int .i64 16, .int .i64 2, .slice (some ⟨w.heap.size + 1 + 1, 0, none⟩) 1 1, .int .i64 0, .slice none 0 0] 24))) (fun _ h => ⟨Nat.lt_of_lt_of_le h.1 hb.size, h.2⟩) fun _ _ h => hb.cell (p := ⟨_, _, none⟩) h.1
    have h1 := TyS.one (fun b h => Nat.lt_of_lt_of_le (HN.out b h) hb.size) h0
    have hs : ((w.alloc (.cells #[.bool ra, .int .i64 rf, .int .i64 rp, .slice pa np pc, .int .i64 rn, .slice fa nf fc] 24)).alloc (.cells #[.bool false, .int .i64 16, .int .i64 2, .slice (some ⟨w.heap.size + 1 + 1, 0, none⟩) 1 1, .int .i64 0, .slice none 0 0] 24)).heap.size = w.heap.size + 1 + 1 := by simp
    rw [hs] at h1
    exact ⟨⟨_, rfl, TyVN.mk h1 (.mkNil _ _)⟩, hb.alloc (by simp; omega) _⟩

set_option maxRecDepth 100000 in
set_option maxHeartbeats 8000000 in
theorem car_any (N : Nat → Prop) (t : Ty) (v : Value) (w : World) (hN : ∀ b, N b → b < w.heap.size) (hv : TyVN N w v t) : Calls Tryd.prog 15 #[v] w (TwPost N (carT t) (carB t) w) := by
  obtain ⟨pa, pc, fa, fc, rfl, hp, hf⟩ := hv.form
  obtain ⟨np, hnp⟩ : ∃ n, n = t.pairs.length := ⟨_, rfl⟩
  obtain ⟨nf, hnf⟩ : ∃ n, n = t.funs.length := ⟨_, rfl⟩
  obtain ⟨ta, hta⟩ : ∃ a, a = t.all := ⟨_, rfl⟩
  obtain ⟨tf, htf⟩ : ∃ a, a = t.flat := ⟨_, rfl⟩
  obtain ⟨tp, htp⟩ : ∃ a, a = t.pair := ⟨_, rfl⟩
  obtain ⟨tn, htn⟩ : ∃ a, a = t.fn := ⟨_, rfl⟩
  have HRES : Hid (carT t = if t.all then tyAll else if t.pair = 0 ∨ t.pairs.length = 0 then ty0 else t.pairs.getD 0 ty0) := Lib.hid rfl
  have HRESB : Hid (carB t = (t.all || !(decide (t.pair = 0 ∨ t.pairs.length = 0)))) := Lib.hid rfl
  rw [← hnp] at hp
  have hpl := hp.len
  rw [← hnp] at hpl
  unfold maxLen at hpl
  have HPN := Lib.hid hnp
  rw [← hnp, ← hta, ← htp] at HRES HRESB
  rw [← hnp, ← hnf, ← hta, ← htf, ← htp, ← htn]
  have HP := Lib.hid hp
  have HN := Lib.hid hN
  clear hp hf hnp hnf hta htf htp htn hv hN
  cases ta with
  | true =>
    have hres : carT t = tyAll := by rw [HRES.out]; simp
    have hresb : carB t = true := by rw [HRESB.out]; simp
    have H1 := Lib.hid hres
    have H2 := Lib.hid hresb
    clear hres hresb HRES HRESB
    go_enter Tryd.func15, Tryd.ntmps15
    go_wp2
    refine bodyPost_ret (v := .tuple #[.agg #[.bool true, .int .i64 0, .int .i64 0, .slice none 0 0, .int .i64 0, .slice none 0 0], .bool true]) ?_ ?_ ?_
    · simp [results, Tryd.results15, go_sem]
    · rfl
    · exact ⟨⟨.agg #[.bool true, .int .i64 0, .int .i64 0, .slice none 0 0, .int .i64 0, .slice none 0 0], by rw [H2.out], by rw [H1.out]; exact tyAll_v _ _⟩, ((Below.refl _ _).alloc (Nat.le_refl _) _).alloc (by simp) _⟩
  | false =>
    by_cases h0 : tp = 0
    · subst h0
      have hres : carT t = ty0 := by rw [HRES.out]; simp
      have hresb : carB t = false := by rw [HRESB.out]; simp
      have H1 := Lib.hid hres
      have H2 := Lib.hid hresb
      clear hres hresb HRES HRESB
      go_enter Tryd.func15, Tryd.ntmps15
      go_wp2
      refine bodyPost_ret (v := .tuple #[.agg #[.bool false, .int .i64 0, .int .i64 0, .slice none 0 0, .int .i64 0, .slice none 0 0], .bool false]) ?_ ?_ ?_
      · simp [results, Tryd.results15, go_sem]
      · rfl
      · exact ⟨⟨.agg #[.bool false, .int .i64 0, .int .i64 0, .slice none 0 0, .int .i64 0, .slice none 0 0], by rw [H2.out], by rw [H1.out]; exact ty0_v _ _⟩, ((Below.refl _ _).alloc (Nat.le_refl _) _).alloc (by simp) _⟩
    have d0 : (tp == 0) = false := beq_false_of_ne h0
    by_cases h1 : np = 0
    · subst h1
      clear h0
      have hres : carT t = ty0 := by rw [HRES.out]; simp
      have hresb : carB t = false := by rw [HRESB.out]; simp
      have H1 := Lib.hid hres
      have H2 := Lib.hid hresb
      clear hres hresb HRES HRESB
      go_enter Tryd.func15, Tryd.ntmps15
      go_wp2
      refine bodyPost_ret (v := .tuple #[.agg #[.bool false, .int .i64 0, .int .i64 0, .slice none 0 0, .int .i64 0, .slice none 0 0], .bool false]) ?_ ?_ ?_
      · simp [results, Tryd.results15, go_sem]
      · rfl
      · exact ⟨⟨.agg #[.bool false, .int .i64 0, .int .i64 0, .slice none 0 0, .int .i64 0, .slice none 0 0], by rw [H2.out], by rw [H1.out]; exact ty0_v _ _⟩, ((Below.refl _ _).alloc (Nat.le_refl _) _).alloc (by simp) _⟩
    have d1 : ((np : Int) == 0) = false := beq_false_of_ne (by omega)
    have hne : ¬ (tp = 0 ∨ np = 0) := fun h => h.elim h0 h1
    have hn1 : (0 : Int) < np := by omega
    have hj : 0 < t.pairs.length := by rw [← HPN.out]; omega
    obtain ⟨d, hd⟩ : ∃ d, t.pairs.getD 0 ty0 = d := ⟨_, rfl⟩
    obtain ⟨b, off, p1, c1, p2, c2, rfl, hb, e0, e1, e2, e3, e4, e5, hu⟩ := TySN.elem HP.out hj hd
    obtain ⟨q1, hq1⟩ : ∃ q, q = d.pairs.length := ⟨_, rfl⟩
    obtain ⟨q2, hq2⟩ : ∃ q, q = d.funs.length := ⟨_, rfl⟩
    obtain ⟨da, hda⟩ : ∃ q, q = d.all := ⟨_, rfl⟩
    obtain ⟨df, hdf⟩ : ∃ q, q = d.flat := ⟨_, rfl⟩
    obtain ⟨dp, hdp⟩ : ∃ q, q = d.pair := ⟨_, rfl⟩
    obtain ⟨dn, hdn⟩ : ∃ q, q = d.fn := ⟨_, rfl⟩
    rw [← hq1] at e3 hu
    rw [← hq2] at e5 hu
    rw [← hda] at e0 hu
    rw [← hdf] at e1 hu
    rw [← hdp] at e2 hu
    rw [← hdn] at e4 hu
    simp only [Nat.zero_mul, Nat.add_zero] at e0 e1 e2 e3 e4 e5
    have HU := Lib.hid hu
    have HD := Lib.hid hd
    clear hj hu hq1 hq2 hda hdf hdp hdn
    have hres : carT t = d := by rw [HRES.out]; rw [if_neg (by simp), if_neg hne, hd]
    have hresb : carB t = true := by rw [HRESB.out]; rw [decide_eq_false hne]; rfl
    have H1 := Lib.hid hres
    have H2 := Lib.hid hresb
    clear hres hresb HRES HRESB
    clear hne h0 h1 hd
    go_enter Tryd.func15, Tryd.ntmps15
    go_wp2
    refine bodyPost_ret (v := .tuple #[.agg #[.bool da, .int .i64 df, .int .i64 dp, .slice p1 q1 c1, .int .i64 dn, .slice p2 q2 c2], .bool true]) ?_ ?_ ?_
    · simp [results, Tryd.results15, go_sem]
    · rfl
    · have hbw : ∀ o1 o2, Below w.heap.size w ((w.alloc o1).alloc o2) := fun o1 o2 => ((Below.refl _ _).alloc (Nat.le_refl _) o1).alloc (by simp) o2
      exact ⟨⟨_, by rw [H2.out], by rw [H1.out]; exact HU.out.below (hbw _ _)⟩, hbw _ _⟩

set_option maxRecDepth 100000 in
set_option maxHeartbeats 8000000 in
theorem cdr_any (N : Nat → Prop) (t : Ty) (v : Value) (w : World) (hN : ∀ b, N b → b < w.heap.size) (hv : TyVN N w v t) : Calls Tryd.prog 17 #[v] w (TwPost N (cdrT t) (cdrB t) w) := by
  obtain ⟨pa, pc, fa, fc, rfl, hp, hf⟩ := hv.form
  obtain ⟨np, hnp⟩ : ∃ n, n = t.pairs.length := ⟨_, rfl⟩
  obtain ⟨nf, hnf⟩ : ∃ n, n = t.funs.length := ⟨_, rfl⟩
  obtain ⟨ta, hta⟩ : ∃ a, a = t.all := ⟨_, rfl⟩
  obtain ⟨tf, htf⟩ : ∃ a, a = t.flat := ⟨_, rfl⟩
  obtain ⟨tp, htp⟩ : ∃ a, a = t.pair := ⟨_, rfl⟩
  obtain ⟨tn, htn⟩ : ∃ a, a = t.fn := ⟨_, rfl⟩
  have HRES : Hid (cdrT t = if t.all then tyAll else if t.pair = 2 ∧ 0 < t.pairs.length then listT (t.pairs.getD 0 ty0) else if t.pair = 1 ∧ 1 < t.pairs.length then t.pairs.getD 1 ty0 else ty0) := Lib.hid rfl
  have HRESB : Hid (cdrB t = (t.all || (decide (t.pair = 2 ∧ 0 < t.pairs.length) || decide (t.pair = 1 ∧ 1 < t.pairs.length)))) := Lib.hid rfl
  rw [← hnp] at hp
  have hpl := hp.len
  rw [← hnp] at hpl
  unfold maxLen at hpl
  have HPN := Lib.hid hnp
  rw [← hnp, ← hta, ← htp] at HRES HRESB
  rw [← hnp, ← hnf, ← hta, ← htf, ← htp, ← htn]
  have HP := Lib.hid hp
  have HN := Lib.hid hN
  clear hp hf hnp hnf hta htf htp htn hv hN
  cases ta with
  | true =>
    have hres : cdrT t = tyAll := by rw [HRES.out]; simp
    have hresb : cdrB t = true := by rw [HRESB.out]; simp
    have H1 := Lib.hid hres
    have H2 := Lib.hid hresb
    clear hres hresb HRES HRESB
    go_enter Tryd.func17, Tryd.ntmps17
    go_wp2
    refine bodyPost_ret (v := .tuple #[.agg #[.bool true, .int .i64 0, .int .i64 0, .slice none 0 0, .int .i64 0, .slice none 0 0], .bool true]) ?_ ?_ ?_
    · simp [results, Tryd.results17, go_sem]
    · rfl
    · exact ⟨⟨.agg #[.bool true, .int .i64 0, .int .i64 0, .slice none 0 0, .int .i64 0, .slice none 0 0], by rw [H2.out], by rw [H1.out]; exact tyAll_v _ _⟩, ((Below.refl _ _).alloc (Nat.le_refl _) _).alloc (by simp) _⟩
  | false =>
    by_cases h2 : tp = 2
    · subst h2
      by_cases h0 : np = 0
      · subst h0
        have hres : cdrT t = ty0 := by rw [HRES.out]; simp
        have hresb : cdrB t = false := by rw [HRESB.out]; simp
        have H1 := Lib.hid hres
        have H2 := Lib.hid hresb
        clear hres hresb HRES HRESB
        go_enter Tryd.func17, Tryd.ntmps17
        go_wp2
        refine bodyPost_ret (v := .tuple #[.agg #[.bool false, .int .i64 0, .int .i64 0, .slice none 0 0, .int .i64 0, .slice none 0 0], .bool false]) ?_ ?_ ?_
        · simp [results, Tryd.results17, go_sem]
        · rfl
        · exact ⟨⟨.agg #[.bool false, .int .i64 0, .int .i64 0, .slice none 0 0, .int .i64 0, .slice none 0 0], by rw [H2.out], by rw [H1.out]; exact ty0_v _ _⟩, ((Below.refl _ _).alloc (Nat.le_refl _) _).alloc (by simp) _⟩
      have d1 : decide ((np : Int) > 0) = true := decide_eq_true (by omega)
      have hn1 : (0 : Int) < np := by omega
      have hlt : 0 < np := by omega
      have hj : 0 < t.pairs.length := by rw [← HPN.out]; omega
      obtain ⟨d, hd⟩ : ∃ d, t.pairs.getD 0 ty0 = d := ⟨_, rfl⟩
      obtain ⟨b, off, p1, c1, p2, c2, rfl, hb, e0, e1, e2, e3, e4, e5, hu⟩ := TySN.elem HP.out hj hd
      obtain ⟨q1, hq1⟩ : ∃ q, q = d.pairs.length := ⟨_, rfl⟩
      obtain ⟨q2, hq2⟩ : ∃ q, q = d.funs.length := ⟨_, rfl⟩
      obtain ⟨da, hda⟩ : ∃ q, q = d.all := ⟨_, rfl⟩
      obtain ⟨df, hdf⟩ : ∃ q, q = d.flat := ⟨_, rfl⟩
      obtain ⟨dp, hdp⟩ : ∃ q, q = d.pair := ⟨_, rfl⟩
      obtain ⟨dn, hdn⟩ : ∃ q, q = d.fn := ⟨_, rfl⟩
      rw [← hq1] at e3 hu
      rw [← hq2] at e5 hu
      rw [← hda] at e0 hu
      rw [← hdf] at e1 hu
      rw [← hdp] at e2 hu
      rw [← hdn] at e4 hu
      simp only [Nat.zero_mul, Nat.add_zero] at e0 e1 e2 e3 e4 e5
      have HU := Lib.hid hu
      have HD := Lib.hid hd
      clear hj hu hq1 hq2 hda hdf hdp hdn
      have hres : cdrT t = listT d := by rw [HRES.out]; rw [if_neg (by simp), if_pos ⟨rfl, hlt⟩, hd]
      have hresb : cdrB t = true := by rw [HRESB.out]; rw [decide_eq_true ⟨rfl, hlt⟩]; rfl
      have H1 := Lib.hid hres
      have H2 := Lib.hid hresb
      clear hres hresb HRES HRESB
      clear h0 hlt hd
      obtain ⟨W, hW⟩ : ∃ W, W = (w.alloc (.cells #[.bool false, .int .i64 tf, .int .i64 2, .slice (some ⟨b, off, none⟩) np pc, .int .i64 tn, .slice fa nf fc] 24)).alloc (.cells #[.bool false, .int .i64 0, .int .i64 0, .slice none 0 0, .int .i64 0, .slice none 0 0] 24) := ⟨_, rfl⟩
      obtain ⟨g, hg⟩ : ∃ g, g = w.heap.size + 1 := ⟨_, rfl⟩
      have HBR := Lib.hid (show BoxAt W g false 0 0 (.slice none 0 0) 0 (.slice none 0 0) by rw [hW, hg]; have := BoxAt.made (w.alloc (.cells #[.bool false, .int .i64 tf, .int .i64 2, .slice (some ⟨b, off, none⟩) np pc, .int .i64 tn, .slice fa nf fc] 24)) false 0 0 (.slice none 0 0) 0 (.slice none 0 0); simpa using this)
      have HBW := Lib.hid (show Below w.heap.size w W by rw [hW]; exact ((Below.refl _ _).alloc (Nat.le_refl _) _).alloc (by simp) _)
      have HUW := Lib.hid (TyVN.later (M := fun x => N x ∨ x = g) HU.out HBW.out (fun x h => h.elim .inl fun h => .inr (by omega)))
      have HC := Lib.hid (listof_any (fun x => N x ∨ x = g) d _ W (fun x h => h.elim (fun h => Nat.lt_of_lt_of_le (HN.out x h) HBW.out.size) fun h => by rw [h]; exact HBR.out.lt) HUW.out)
      have HG := Lib.hid hg
      have HW := Lib.hid hW
      clear hW hg HUW
      go_enter Tryd.func17, Tryd.ntmps17
      go_wp2_with fail
      rw [← HW.out]
      refine HC.out.mono ?_
      rintro e w2 ⟨⟨v, rfl, hv⟩, hb2⟩
      obtain ⟨r1, r2, r3, r4, rfl, _, _⟩ := hv.form
      simp only [listT, Ty.all, Ty.flat, Ty.pair, Ty.pairs, Ty.fn, Ty.funs, List.length_cons, List.length_nil] at hv ⊢
      have HBR2 := Lib.hid (HBR.out.keep hb2)
      have HV := Lib.hid hv
      have HB2 := Lib.hid (HBW.out.trans (hb2.mono HBW.out.size))
      have x0 := HBR2.out.fr 0
      have x1 := HBR2.out.fr 1
      have x2 := HBR2.out.fr 2
      have x3 := HBR2.out.fr 3
      have x4 := HBR2.out.fr 4
      have x5 := HBR2.out.fr 5
      have y0 := HBR2.out.c0
      have y1 := HBR2.out.c1
      have y2 := HBR2.out.c2
      have y3 := HBR2.out.c3
      have y4 := HBR2.out.c4
      have y5 := HBR2.out.c5
      clear hv hb2
      rw [HG.out] at x0 x1 x2 x3 x4 x5 y0 y1 y2 y3 y4 y5
      go_wp2
      rw [← HG.out]
      have HBF := Lib.hid (HBR2.out.set6 (a' := false) (f' := 16) (p' := 2) (pv' := .slice r1 1 r2) (k' := 0) (fv' := .slice r3 0 r4))
      refine bodyPost_ret (v := .tuple #[.agg #[.bool false, .int .i64 16, .int .i64 2, .slice r1 1 r2, .int .i64 0, .slice r3 0 r4], .bool true]) ?_ ?_ ?_
      · have z0 := HBF.out.c0
        have z1 := HBF.out.c1
        have z2 := HBF.out.c2
        have z3 := HBF.out.c3
        have z4 := HBF.out.c4
        have z5 := HBF.out.c5
        unfold set6 at z0 z1 z2 z3 z4 z5
        simp [results, Tryd.results17, go_sem, z0, z1, z2, z3, z4, z5]
      · rfl
      · refine ⟨⟨_, by rw [H2.out], ?_⟩, ?_⟩
        · rw [H1.out]
          exact TyVN.mono (TyVN.set6 (g := g) HV.out (.inr rfl)) fun b _ h => .inl h
        · exact Below.set6 (g := g) HB2.out (by rw [HG.out]; omega)
    have d2 : (tp == 2) = false := beq_false_of_ne h2
    by_cases h1 : tp = 1
    · subst h1
      by_cases h0 : 1 < np
      · have d1 : decide ((np : Int) > 1) = true := decide_eq_true (by omega)
        have hn1 : (1 : Int) < np := by omega
        have hj : 1 < t.pairs.length := by rw [← HPN.out]; omega
        obtain ⟨d, hd⟩ : ∃ d, t.pairs.getD 1 ty0 = d := ⟨_, rfl⟩
        obtain ⟨b, off, p1, c1, p2, c2, rfl, hb, e0, e1, e2, e3, e4, e5, hu⟩ := TySN.elem HP.out hj hd
        obtain ⟨q1, hq1⟩ : ∃ q, q = d.pairs.length := ⟨_, rfl⟩
        obtain ⟨q2, hq2⟩ : ∃ q, q = d.funs.length := ⟨_, rfl⟩
        obtain ⟨da, hda⟩ : ∃ q, q = d.all := ⟨_, rfl⟩
        obtain ⟨df, hdf⟩ : ∃ q, q = d.flat := ⟨_, rfl⟩
        obtain ⟨dp, hdp⟩ : ∃ q, q = d.pair := ⟨_, rfl⟩
        obtain ⟨dn, hdn⟩ : ∃ q, q = d.fn := ⟨_, rfl⟩
        rw [← hq1] at e3 hu
        rw [← hq2] at e5 hu
        rw [← hda] at e0 hu
        rw [← hdf] at e1 hu
        rw [← hdp] at e2 hu
        rw [← hdn] at e4 hu
        simp only [Nat.one_mul] at e0 e1 e2 e3 e4 e5
        have HU := Lib.hid hu
        have HD := Lib.hid hd
        clear hj hu hq1 hq2 hda hdf hdp hdn
        have hres : cdrT t = d := by rw [HRES.out]; rw [if_neg (by simp), if_neg (fun h => h2 h.1), if_pos ⟨rfl, h0⟩, hd]
        have hresb : cdrB t = true := by rw [HRESB.out]; rw [decide_eq_true (p := (1 : Int) = 1 ∧ 1 < np) ⟨rfl, h0⟩, Bool.or_true, Bool.or_true]
        have H1 := Lib.hid hres
        have H2 := Lib.hid hresb
        clear hres hresb HRES HRESB
        clear h0 h2 hd
        go_enter Tryd.func17, Tryd.ntmps17
        go_wp2
        refine bodyPost_ret (v := .tuple #[.agg #[.bool da, .int .i64 df, .int .i64 dp, .slice p1 q1 c1, .int .i64 dn, .slice p2 q2 c2], .bool true]) ?_ ?_ ?_
        · simp [results, Tryd.results17, go_sem]
        · rfl
        · have hbw : ∀ o1 o2, Below w.heap.size w ((w.alloc o1).alloc o2) := fun o1 o2 => ((Below.refl _ _).alloc (Nat.le_refl _) o1).alloc (by simp) o2
          exact ⟨⟨_, by rw [H2.out], by rw [H1.out]; exact HU.out.below (hbw _ _)⟩, hbw _ _⟩
      · have d1 : decide ((np : Int) > 1) = false := decide_eq_false (by omega)
        clear h2
        have hres : cdrT t = ty0 := by rw [HRES.out]; simp [h0]
        have hresb : cdrB t = false := by rw [HRESB.out]; simp [h0]
        have H1 := Lib.hid hres
        have H2 := Lib.hid hresb
        clear hres hresb HRES HRESB h0
        go_enter Tryd.func17, Tryd.ntmps17
        go_wp2
        refine bodyPost_ret (v := .tuple #[.agg #[.bool false, .int .i64 0, .int .i64 0, .slice none 0 0, .int .i64 0, .slice none 0 0], .bool false]) ?_ ?_ ?_
        · simp [results, Tryd.results17, go_sem]
        · rfl
        · exact ⟨⟨.agg #[.bool false, .int .i64 0, .int .i64 0, .slice none 0 0, .int .i64 0, .slice none 0 0], by rw [H2.out], by rw [H1.out]; exact ty0_v _ _⟩, ((Below.refl _ _).alloc (Nat.le_refl _) _).alloc (by simp) _⟩
    · have d3 : (tp == 1) = false := beq_false_of_ne h1
      have hres : cdrT t = ty0 := by rw [HRES.out]; simp [h1, h2]
      have hresb : cdrB t = false := by rw [HRESB.out]; simp [h1, h2]
      have H1 := Lib.hid hres
      have H2 := Lib.hid hresb
      clear hres hresb HRES HRESB h1 h2
      go_enter Tryd.func17, Tryd.ntmps17
      go_wp2
      refine bodyPost_ret (v := .tuple #[.agg #[.bool false, .int .i64 0, .int .i64 0, .slice none 0 0, .int .i64 0, .slice none 0 0], .bool false]) ?_ ?_ ?_
      · simp [results, Tryd.results17, go_sem]
      · rfl
      · exact ⟨⟨.agg #[.bool false, .int .i64 0, .int .i64 0, .slice none 0 0, .int .i64 0, .slice none 0 0], by rw [H2.out], by rw [H1.out]; exact ty0_v _ _⟩, ((Below.refl _ _).alloc (Nat.le_refl _) _).alloc (by simp) _⟩
end Go.Proofs.YtdjhjapfmbcmlaaDoor
