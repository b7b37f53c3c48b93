import Derived.Test.YtgjkobkcmgliaaaNwX
namespace Go.Proofs.Ytgjkobkcmgliaaa
open Go.RowKit

theorem set_blk2 {w : World} {r i b o : Nat} {x v : Value} (hb : r ≠ b) (h : w.cell? ⟨b, o, none⟩ = some v) : (w.setCell ⟨r, i, none⟩ x).cell? ⟨b, o, none⟩ = some v := by
  rw [← h]; exact World.cell?_of_block (Below.heap_setCell _ _ _ _ (Ne.symm hb))
set_option maxRecDepth 100000 in
set_option maxHeartbeats 32000000 in
theorem normal_core (rv : Value) (N : Nat) (L : List (Int × Int)) (w : World) (hN : N = L.length) (hm : N ≤ 40000)
    (CC : Calls Try.prog 64 #[rv] w fun e w' => (∃ v, e = .returned v ∧ w'.ownsRow w.heap.size 61 2 v N (fasCells L)) ∧ Below w.heap.size w w')
    (q k : Nat) (hrv : rv = .slice (some ⟨q, 0, none⟩) k k) :
    Calls Try.prog 45 #[rv] w (SlPost (nrm L) w) := by
  subst hrv
  obtain ⟨i0, hi, hz0, hz1, hz2⟩ := info_parts Try.infoFa
  have HN := Lib.hid hN
  have HCC := Lib.hid CC
  have HM := Lib.hid hm
  have bN : (N : Int) ≤ 40000 := by omega
  clear CC hN hm
  go_enter Try.func45, Try.ntmps45
  go_wp2_with fail
  refine HCC.out.mono ?_
  rintro e w2 ⟨⟨sv, rfl, hown⟩, hb2⟩
  have HB2 := Lib.hid hb2
  have hst := sort_go w.heap.size N sv L w2 HN.out (by have := HM.out; omega) hb2.size hown
  have HST := Lib.hid hst
  have hsv : ∃ sa sc, sv = .slice sa N sc := by
    rcases hown.2 with ⟨rfl, h0⟩ | ⟨g, cap, cur, rfl, _⟩
    · exact ⟨none, 0, by rw [h0]⟩
    · exact ⟨_, _, rfl⟩
  obtain ⟨sa, sc, rfl⟩ := hsv
  clear hown hb2 hst HCC
  go_wp2_with fail
  refine HST.out.mono ?_
  rintro e w1 ⟨rfl, hb1, d, hp, hs, hown⟩
  have HMN := Lib.hid (merge_nrm hp hs)
  have HSD := Lib.hid hs
  have hdl : N = d.length := by rw [hp.length_eq, HN.out]
  have HDL := Lib.hid hdl
  have HB1 := Lib.hid (HB2.out.trans hb1)
  have HFA := Lib.hid (show FaB w.heap.size w1 (.slice sa N sc) d from FaB.of_own (e := 61) (by rw [← hdl]; exact hown) (by rw [← hdl]; have := HM.out; unfold maxLen; omega))
  clear hp hs hdl hown hb1 HST HB2
  go_wp2
  go_loopw [4, 14] (fun ov iv wr => MgRel N d w1 ov iv wr) (fun _ iv _ => N - (intOf iv).toNat)
  case atStart => exact ⟨0, 0, Nat.zero_le _, rfl, Nat.le_refl _, Lib.hid rfl, Lib.hid (World.ownsRow_nil _ _ _ _), Lib.hid (Below.refl _ _)⟩
  case round =>
    obtain ⟨i, n, hi1, rfl, hni, HNL, HOW, HBW⟩ := hrel
    have k0 : (0 : Int) ≤ (i : Int) := Int.natCast_nonneg _
    by_cases hlt : i < N
    · have hil : i < d.length := by rw [← HDL.out]; exact hlt
      obtain ⟨q2, off, rfl, _, hq, c0, c1⟩ := HFA.out.get hil
      have e0 := (HBW.out.cell (p := ⟨q2, _, none⟩) hq).trans c0
      have e1 := (HBW.out.cell (p := ⟨q2, _, none⟩) hq).trans c1
      obtain ⟨x, hx⟩ : ∃ x, x = (d.getD i fa0).1 := ⟨_, rfl⟩
      obtain ⟨y, hy⟩ : ∃ y, y = (d.getD i fa0).2 := ⟨_, rfl⟩
      rw [← hx] at e0
      rw [← hy] at e1
      obtain ⟨yl, hyl⟩ : ∃ t : Int, t = (lowN y : Int) := ⟨_, rfl⟩
      have hand := i64_and255 y
      rw [← hyl] at hand
      have k1 : (i : Int) < (N : Int) := by omega
      have bn : (n : Int) ≤ 40000 := by omega
      have bn0 : (0 : Int) ≤ (n : Int) := Int.natCast_nonneg _
      obtain ⟨acc, hacc⟩ : ∃ acc, acc = mergeF (d.take i) := ⟨_, rfl⟩
      have HNL2 := Lib.hid (show n = acc.length by rw [hacc]; exact HNL.out)
      have HOW2 := Lib.hid (show wr.ownsRow w1.heap.size 61 2 u4 n (fasCells acc) by rw [hacc]; exact HOW.out)
      have HAC := Lib.hid hacc
      have HFF := Lib.hid (show d.getD i fa0 = (x, y) by rw [hx, hy])
      have HYL := Lib.hid hyl
      obtain ⟨W, hW⟩ : ∃ W, W = wr.alloc (.cells #[.int .i64 x, .int .i64 yl] 61) := ⟨_, rfl⟩
      have HW := Lib.hid hW
      have hbx : Bx W wr.heap.size 61 #[.int .i64 x, .int .i64 yl] := by rw [hW]; exact Bx.made _ _ _
      have HBX := Lib.hid hbx
      have hbw : Below wr.heap.size wr W := by rw [hW]; exact (Below.refl _ _).alloc (Nat.le_refl _) _
      have HWW := Lib.hid hbw
      have HBT := Lib.hid (HBW.out.trans (hbw.mono HBW.out.size))
      have HOW3 := Lib.hid (own_block HOW2.out (w' := W) fun g' hg' => hbw.block g' (own_lt HOW2.out hg'))
      have z0 := hbx.c0
      have z1 := hbx.c1
      have hv : ∃ oa oc, u4 = .slice oa n oc ∧ ((oa = none ∧ n = 0 ∧ oc = 0) ∨ ∃ g, oa = some ⟨g, 0, none⟩ ∧ w1.heap.size ≤ g ∧ g < wr.heap.size) := by
        rcases HOW2.out.2 with ⟨h, h0⟩ | ⟨g, cap, cur, h, hb, hg, _⟩
        · exact ⟨none, 0, by rw [h, h0], .inl ⟨rfl, h0, rfl⟩⟩
        · exact ⟨_, cap, h, .inr ⟨g, rfl, hb, (Array.getElem?_eq_some_iff.1 hg).1⟩⟩
      obtain ⟨oa, oc, rfl, hoa⟩ := hv
      have HOA := Lib.hid hoa
      clear c0 c1 hx hy hil hacc hyl hW hbx hbw hoa
      go_upto_region 8 with fail
      rw [← HW.out]
      rcases mg_case acc (x, y) n HNL2.out with ⟨h0, he, hme⟩ | ⟨a, p, he, hn1, hme⟩
      · have HME := Lib.hid hme
        have HAE := Lib.hid he
        subst h0
        clear hme he e0 e1 hand HW
        go_wp2
        go_quiet (fail)
        obtain ⟨Wd, hWd⟩ : ∃ Wd : World, Wd = W.drewN nq := ⟨_, rfl⟩
        rw [← hWd]
        have y0 : Wd.cell? ⟨wr.heap.size, 0, none⟩ = some (.int .i64 x) := by rw [hWd]; exact z0
        have y1 : Wd.cell? ⟨wr.heap.size, 1, none⟩ = some (.int .i64 yl) := by rw [hWd]; exact z1
        have HBD := Lib.hid (show Below w1.heap.size w1 Wd by rw [hWd]; exact below_dr HBT.out _)
        have HOX := Lib.hid ((show Wd.ownsRow w1.heap.size 61 2 (.slice oa 0 oc) 0 (fasCells acc) by rw [hWd]; exact HOW3.out).alloc (.cells #[.int .i64 x, .int .i64 yl] 61))
        have HSX := Lib.hid (show w1.heap.size ≤ (Wd.alloc (.cells #[.int .i64 x, .int .i64 yl] 61)).heap.size by rw [size_alloc]; have := HBD.out.size; omega)
        clear hWd z0 z1
        go_wp2_with (at_builtin; refine wpl_append_gen _ rfl _ _ 28 rfl w1.heap.size 61 i0 (.agg #[.int .i64 0, .int .i64 0]) 2 16 Try.underlying28 hi hz0 hz1 hz2 rfl (by decide) (.slice oa 0 oc) 0 (fasCells acc) rfl HOX.out (some ⟨Wd.heap.size, 0, none⟩) 1 1 [.int .i64 x, .int .i64 yl] rfl rfl (.inr ⟨_, rfl, fun j u hj => app_new hj⟩) (by simp [Value.oneCell']) (by unfold maxLen; omega) (by omega) HSX.out ?_)
        intro v9 w9 hown9 hgrow9
        have HB9 := Lib.hid (show Below w1.heap.size w1 w9 from (HBD.out.alloc HBD.out.size _).grown hgrow9 HSX.out fun g hg => (HOX.out.lt g hg).1)
        have HO9 := Lib.hid (show w9.ownsRow w1.heap.size 61 2 v9 (0 + 1) (fasCells (acc ++ [(x, yl)])) by rw [fasCells_snoc]; exact hown9)
        clear hown9 hgrow9
        go_wp2
        exact mg_end (i := i) (acc := acc ++ [(x, yl)]) hlt HDL.out (by rw [HFF.out, ← HAC.out, HYL.out]; exact HME.out.symm) hni (Nat.le_refl _) (by rw [List.length_append, ← HNL2.out]; rfl) HO9.out HB9.out (by go_num)
      · have HRG := Lib.hid (show 0 ≤ p.2 ∧ p.2 ≤ 255 from (mergeF_ok (HSD.out.sublist (List.take_sublist i d))).rng p (by rw [← HAC.out, he]; simp))
        obtain ⟨m, hm⟩ : ∃ m, m = a.length := ⟨_, rfl⟩
        rw [← hm] at hn1
        subst hn1
        obtain ⟨g, rfl, hg1, hg2⟩ : ∃ g, oa = some ⟨g, 0, none⟩ ∧ w1.heap.size ≤ g ∧ g < wr.heap.size := by
          rcases HOA.out with ⟨_, h, _⟩ | h
          · omega
          · exact h
        have hgb : g ≠ wr.heap.size := by omega
        have hgW : g < W.heap.size := Nat.lt_of_lt_of_le hg2 HWW.out.size
        have hgt : acc.getD m fa0 = p := by rw [he, hm]; simp [List.getD_eq_getElem?_getD]
        have hml : m < acc.length := by rw [← HNL2.out]; omega
        obtain ⟨l0, l1, lf⟩ := own_cells hml HOW3.out
        rw [hgt] at l0 l1
        have lfr := lf (m * 2 + 1)
        obtain ⟨px, py⟩ := p
        have kk : decide ((0 : Int) < ((m + 1 : Nat) : Int)) = true := decide_eq_true (by omega)
        have kk2 : (0 : Int) < ((m + 1 : Nat) : Int) := by omega
        have HMM := Lib.hid hm
        have HAE := Lib.hid he
        clear he hm hgt hml lf e0 e1 hand HW HOA
        by_cases hpx : px = x
        · have kx : (px == x) = true := by simp [hpx]
          rw [if_pos hpx] at hme
          have HME := Lib.hid hme
          obtain ⟨r, hr⟩ : ∃ r : Int, r = ((py.toNat &&& lowN y : Nat) : Int) := ⟨_, rfl⟩
          have hand : bits .and .i64 py yl = r := by
            have h1 := i64_and (x := py.toNat) (y := lowN y) (by have := HRG.out; simp at this; omega) (lowN_lt y)
            rw [← hr, ← HYL.out] at h1
            have h2 : ((py.toNat : Nat) : Int) = py := by have := HRG.out; simp at this; omega
            rw [h2] at h1
            exact h1
          have HR := Lib.hid hr
          have wm : IntKind.i64.wrap (m : Int) = (m : Int) := by rw [IntKind.wrap_i64]; omega
          have wm0 : (0 : Int) ≤ (m : Int) := by omega
          have wm1 : (m : Int) < (m : Int) + 1 := by omega
          clear hme hpx hr
          go_wp2
          go_quiet (fail)
          obtain ⟨Wd, hWd⟩ : ∃ Wd : World, Wd = W.drewN nq := ⟨_, rfl⟩
          rw [← hWd]
          have y0 : Wd.cell? ⟨wr.heap.size, 0, none⟩ = some (.int .i64 x) := by rw [hWd]; exact z0
          have y1 : Wd.cell? ⟨wr.heap.size, 1, none⟩ = some (.int .i64 yl) := by rw [hWd]; exact z1
          have HBD := Lib.hid (show Below w1.heap.size w1 Wd by rw [hWd]; exact below_dr HBT.out _)
          have HOX := Lib.hid ((show Wd.ownsRow w1.heap.size 61 2 (.slice (some ⟨g, 0, none⟩) (m + 1) oc) (m + 1) (fasCells acc) by rw [hWd]; exact HOW3.out).alloc (.cells #[.int .i64 x, .int .i64 yl] 61))
          have HSX := Lib.hid (show w1.heap.size ≤ (Wd.alloc (.cells #[.int .i64 x, .int .i64 yl] 61)).heap.size by rw [size_alloc]; have := HBD.out.size; omega)
          have z2 : Wd.cell? ⟨g, m * 2, none⟩ = some (.int .i64 px) := by rw [hWd]; exact l0
          have z3 : Wd.cell? ⟨g, m * 2 + 1, none⟩ = some (.int .i64 py) := by rw [hWd]; exact l1
          have zf : Wd.frozen? ⟨g, m * 2 + 1, none⟩ = false := by rw [hWd]; exact lfr
          have HOD := Lib.hid (show Wd.ownsRow w1.heap.size 61 2 (.slice (some ⟨g, 0, none⟩) (m + 1) oc) (m + 1) (fasCells acc) by rw [hWd]; exact HOW3.out)
          clear hWd z0 z1 l0 l1 lfr
          go_upto_region 10 with fail
          (try dsimp only [List.append])
          refine wp_region_noPanic ?_
          refine wp_region_held_drew (S := (fun w' => w'.cell? ⟨wr.heap.size, 1, none⟩ = some (.int .i64 yl))) (by kernel_rfl) (by (try dsimp only); exact y1) (fun hHeld => ?_)
          refine' tk_any 0 37 (v := _) ?hi5001 ?hd5001 (by kernel_rfl) (by kernel_rfl) (by kernel_rfl) (fun _ _ _ h => h) ?hy5001 hHeld ?hr5001
          case hi5001 => (simp only [List.getElem?_toArray, List.getElem?_cons_zero]; rfl)
          case hd5001 => rfl
          case hy5001 =>
            refine' Or.inl ⟨?hw5001, ?hx5001⟩
            case hw5001 => rfl
            case hx5001 => (intro w hSw; (try dsimp only at hSw); go_simp; (try with_reducible rfl))
          (try simp only [Act.put, List.setIfInBounds_toArray, List.set_cons_zero, List.set_cons_succ])
          refine' tk_any 1 38 (v := _) ?hi5002 ?hd5002 (by kernel_rfl) (by kernel_rfl) (by kernel_rfl) (fun _ _ _ h => h) ?hy5002 hHeld ?hr5002
          case hi5002 => (simp only [List.getElem?_toArray, List.getElem?_cons_succ, List.getElem?_cons_zero]; rfl)
          case hd5002 => rfl
          case hy5002 =>
            refine' Or.inl ⟨?hw5002, ?hx5002⟩
            case hw5002 => rfl
            case hx5002 => (intro w hSw; (try dsimp only at hSw); go_simp; (try with_reducible rfl))
          (try simp only [Act.put, List.setIfInBounds_toArray, List.set_cons_zero, List.set_cons_succ])
          refine' tk_any 2 39 (v := _) ?hi5003 ?hd5003 (by kernel_rfl) (by kernel_rfl) (by kernel_rfl) (fun _ _ _ h => h) ?hy5003 hHeld ?hr5003
          case hi5003 => (simp only [List.getElem?_toArray, List.getElem?_cons_succ, List.getElem?_cons_zero]; rfl)
          case hd5003 => rfl
          case hy5003 =>
            refine' Or.inl ⟨?hw5003, ?hx5003⟩
            case hw5003 => rfl
            case hx5003 => (intro w hSw; (try dsimp only at hSw); go_simp; (try with_reducible rfl))
          (try simp only [Act.put, List.setIfInBounds_toArray, List.set_cons_zero, List.set_cons_succ])
          refine' tk_any 3 40 (v := _) ?hi5004 ?hd5004 (by kernel_rfl) (by kernel_rfl) (by kernel_rfl) (fun _ _ _ h => h) ?hy5004 hHeld ?hr5004
          case hi5004 => (simp only [List.getElem?_toArray, List.getElem?_cons_succ, List.getElem?_cons_zero]; rfl)
          case hd5004 => rfl
          case hy5004 =>
            refine' Or.inl ⟨?hw5004, ?hx5004⟩
            case hw5004 => rfl
            case hx5004 => (intro w hSw; (try dsimp only at hSw); go_simp; (try with_reducible rfl))
          (try simp only [Act.put, List.setIfInBounds_toArray, List.set_cons_zero, List.set_cons_succ])
          refine' tk_any 4 41 (v := _) ?hi5005 ?hd5005 (by kernel_rfl) (by kernel_rfl) (by kernel_rfl) (fun _ _ _ h => h) ?hy5005 hHeld ?hr5005
          case hi5005 => (simp only [List.getElem?_toArray, List.getElem?_cons_succ, List.getElem?_cons_zero]; rfl)
          case hd5005 => rfl
          case hy5005 =>
            refine' Or.inl ⟨?hw5005, ?hx5005⟩
            case hw5005 => rfl
            case hx5005 => (intro w hSw; (try dsimp only at hSw); go_simp; (try with_reducible rfl))
          (try simp only [Act.put, List.setIfInBounds_toArray, List.set_cons_zero, List.set_cons_succ])
          refine' tk_any 6 43 (v := _) ?hi5006 ?hd5006 (by kernel_rfl) (by kernel_rfl) (by kernel_rfl) (fun _ _ _ h => h) ?hy5006 hHeld ?hr5006
          case hi5006 => (simp only [List.getElem?_toArray, List.getElem?_cons_succ, List.getElem?_cons_zero]; rfl)
          case hd5006 => rfl
          case hy5006 =>
            refine' Or.inl ⟨?hw5006, ?hx5006⟩
            case hw5006 => rfl
            case hx5006 => (intro w hSw; (try dsimp only at hSw); go_simp; (try with_reducible rfl))
          (try simp only [Act.put, List.setIfInBounds_toArray, List.set_cons_zero, List.set_cons_succ])
          refine' tk_any 7 44 (v := _) ?hi5007 ?hd5007 (by kernel_rfl) (by kernel_rfl) (by kernel_rfl) (fun _ _ _ h => h) ?hy5007 hHeld ?hr5007
          case hi5007 => (simp only [List.getElem?_toArray, List.getElem?_cons_succ, List.getElem?_cons_zero]; rfl)
          case hd5007 => rfl
          case hy5007 =>
            refine' Or.inl ⟨?hw5007, ?hx5007⟩
            case hw5007 => rfl
            case hx5007 => (intro w hSw; (try dsimp only at hSw); go_simp; (try with_reducible rfl))
          (try simp only [Act.put, List.setIfInBounds_toArray, List.set_cons_zero, List.set_cons_succ])
          refine' tk_call 5 ?hi5008 (by kernel_rfl) ?hr5008
          case hi5008 => (simp only [List.getElem?_toArray, List.getElem?_cons_succ, List.getElem?_cons_zero]; rfl)
          intro K hK
          go_simp
          clear hHeld
          refine hK.out _ _ (by (try dsimp only); exact y1) (fun hHeld => ?_)
          clear hK K
          (try simp only [Act.put, List.setIfInBounds_toArray, List.set_cons_zero, List.set_cons_succ])
          refine' tk_any 8 45 (v := _) ?hi5009 ?hd5009 (by kernel_rfl) (by kernel_rfl) (by kernel_rfl) (fun _ _ _ h => h) ?hy5009 hHeld ?hr5009
          case hi5009 => (simp only [List.getElem?_toArray, List.getElem?_cons_succ, List.getElem?_cons_zero]; rfl)
          case hd5009 => rfl
          case hy5009 =>
            refine' Or.inl ⟨?hw5009, ?hx5009⟩
            case hw5009 => rfl
            case hx5009 => (intro w hSw; (try dsimp only at hSw); go_simp; (try with_reducible rfl))
          (try simp only [Act.put, List.setIfInBounds_toArray, List.set_cons_zero, List.set_cons_succ])
          refine' tk_any 9 46 (v := _) ?hi5010 ?hd5010 (by kernel_rfl) (by kernel_rfl) (by kernel_rfl) (fun _ _ _ h => h) ?hy5010 hHeld ?hr5010
          case hi5010 => (simp only [List.getElem?_toArray, List.getElem?_cons_succ, List.getElem?_cons_zero]; rfl)
          case hd5010 => rfl
          case hy5010 =>
            refine' Or.inl ⟨?hw5010, ?hx5010⟩
            case hw5010 => rfl
            case hx5010 => (intro w hSw; (try dsimp only at hSw); go_simp; (try with_reducible rfl))
          (try simp only [Act.put, List.setIfInBounds_toArray, List.set_cons_zero, List.set_cons_succ])
          refine' tk_any 10 47 (v := _) ?hi5011 ?hd5011 (by kernel_rfl) (by kernel_rfl) (by kernel_rfl) (fun _ _ _ h => h) ?hy5011 hHeld ?hr5011
          case hi5011 => (simp only [List.getElem?_toArray, List.getElem?_cons_succ, List.getElem?_cons_zero]; rfl)
          case hd5011 => rfl
          case hy5011 =>
            refine' Or.inl ⟨?hw5011, ?hx5011⟩
            case hw5011 => rfl
            case hx5011 => (intro w hSw; (try dsimp only at hSw); go_simp; (try with_reducible rfl))
          (try simp only [Act.put, List.setIfInBounds_toArray, List.set_cons_zero, List.set_cons_succ])
          refine' tk_call 11 ?hi5012 (by kernel_rfl) ?hr5012
          case hi5012 => (simp only [List.getElem?_toArray, List.getElem?_cons_succ, List.getElem?_cons_zero]; rfl)
          intro K hK
          go_simp
          clear hHeld
          refine hK.out _ _ (by (try dsimp only); exact set_blk2 hgb y1) (fun hHeld => ?_)
          clear hK K
          (try simp only [Act.put, List.setIfInBounds_toArray, List.set_cons_zero, List.set_cons_succ])
          refine wpAnyH_done (by kernel_rfl) ?_ _
          refine NoPanic.normal ?_
          go_wp2
          exact mg_end (i := i) (acc := a ++ [(px, r)]) (n' := m + 1) hlt HDL.out (by rw [HFF.out, ← HAC.out, HR.out]; exact HME.out.symm) hni (by omega) (by rw [List.length_append, HMM.out]; rfl) (own_last2 (by rw [List.length_append, HMM.out]; rfl) (show Wd.drew.ownsRow w1.heap.size 61 2 (.slice (some ⟨g, 0, none⟩) (m + 1) oc) (m + 1) (fasCells (a ++ [(px, py)])) by have h := HOD.out; rw [HAE.out] at h; exact h) r) (HBD.out.drew.setCell (p := ⟨g, m * 2 + 1, none⟩) hg1 _) (by go_num)
        · have kx : (px == x) = false := by simp [hpx]
          rw [if_neg hpx] at hme
          have HME := Lib.hid hme
          clear hme hpx
          go_wp2
          go_quiet (fail)
          obtain ⟨Wd, hWd⟩ : ∃ Wd : World, Wd = W.drewN nq := ⟨_, rfl⟩
          rw [← hWd]
          have y0 : Wd.cell? ⟨wr.heap.size, 0, none⟩ = some (.int .i64 x) := by rw [hWd]; exact z0
          have y1 : Wd.cell? ⟨wr.heap.size, 1, none⟩ = some (.int .i64 yl) := by rw [hWd]; exact z1
          have HBD := Lib.hid (show Below w1.heap.size w1 Wd by rw [hWd]; exact below_dr HBT.out _)
          have HOX := Lib.hid ((show Wd.ownsRow w1.heap.size 61 2 (.slice (some ⟨g, 0, none⟩) (m + 1) oc) (m + 1) (fasCells acc) by rw [hWd]; exact HOW3.out).alloc (.cells #[.int .i64 x, .int .i64 yl] 61))
          have HSX := Lib.hid (show w1.heap.size ≤ (Wd.alloc (.cells #[.int .i64 x, .int .i64 yl] 61)).heap.size by rw [size_alloc]; have := HBD.out.size; omega)
          have z2 : Wd.cell? ⟨g, m * 2, none⟩ = some (.int .i64 px) := by rw [hWd]; exact l0
          have z3 : Wd.cell? ⟨g, m * 2 + 1, none⟩ = some (.int .i64 py) := by rw [hWd]; exact l1
          have zf : Wd.frozen? ⟨g, m * 2 + 1, none⟩ = false := by rw [hWd]; exact lfr
          have HOD := Lib.hid (show Wd.ownsRow w1.heap.size 61 2 (.slice (some ⟨g, 0, none⟩) (m + 1) oc) (m + 1) (fasCells acc) by rw [hWd]; exact HOW3.out)
          clear hWd z0 z1 l0 l1 lfr
          go_wp2_with (at_builtin; refine wpl_append_gen _ rfl _ _ 28 rfl w1.heap.size 61 i0 (.agg #[.int .i64 0, .int .i64 0]) 2 16 Try.underlying28 hi hz0 hz1 hz2 rfl (by decide) (.slice (some ⟨g, 0, none⟩) (m + 1) oc) (m + 1) (fasCells acc) rfl HOX.out (some ⟨Wd.heap.size, 0, none⟩) 1 1 [.int .i64 x, .int .i64 yl] rfl rfl (.inr ⟨_, rfl, fun j u hj => app_new hj⟩) (by simp [Value.oneCell']) (by unfold maxLen; omega) (by omega) HSX.out ?_)
          intro v9 w9 hown9 hgrow9
          have HB9 := Lib.hid (show Below w1.heap.size w1 w9 from (HBD.out.alloc HBD.out.size _).grown hgrow9 HSX.out fun g hg => (HOX.out.lt g hg).1)
          have HO9 := Lib.hid (show w9.ownsRow w1.heap.size 61 2 v9 ((m + 1) + 1) (fasCells (acc ++ [(x, yl)])) by rw [fasCells_snoc]; exact hown9)
          clear hown9 hgrow9
          go_wp2
          exact mg_end (i := i) (acc := acc ++ [(x, yl)]) hlt HDL.out (by rw [HFF.out, ← HAC.out, HYL.out]; exact HME.out.symm) hni (Nat.le_refl _) (by rw [List.length_append, ← HNL2.out]; rfl) HO9.out HB9.out (by go_num)
    · have hin : i = N := by omega
      have HDF := Lib.hid (fdel_go w1.heap.size n u4 (mergeF d) wr (by have h := HNL.out; rw [hin, HDL.out, List.take_length] at h; exact h) (by have := HM.out; omega) HBW.out.size (by have h := HOW.out; rw [hin, HDL.out, List.take_length] at h; exact h))
      clear hin
      go_wp2_with fail
      refine HDF.out.mono ?_
      rintro e w9 ⟨⟨v9, rfl, hf9⟩, hb9⟩
      have HF9 := Lib.hid (show FaB w.heap.size w9 v9 (nrm L) by rw [← HMN.out]; exact hf9.mono HB1.out.size)
      have HB9 := Lib.hid (HB1.out.trans ((HBW.out.trans hb9).mono HB1.out.size))
      clear hf9 hb9
      go_wp2
      go_ret
      exact ⟨⟨_, rfl, HF9.out⟩, HB9.out⟩
end Go.Proofs.Ytgjkobkcmgliaaa
