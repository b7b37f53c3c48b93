import Derived.Test.YtgjkobkcmgliaaaNwD
namespace Go.Proofs.Ytgjkobkcmgliaaa
open Go.RowKit

/-- what a callee hands back is handed on -/
theorem fc_pass {w wr : World} {r B vn vc : Nat} {va : Option Addr} {F : Fcs} {vb : Bool} {x y : Value} (hr : w.heap.size ≤ r) (hrB : r < B) (hvn : vn = F.l.length) (hvb : vb = F.never) (hf : FaB B wr (.slice va vn vc) F.l) (hb : Below w.heap.size w wr) :
    FcPost F w (.returned (.agg #[.bool vb, .slice va vn vc])) ((wr.setCell ⟨r, 0, none⟩ x).setCell ⟨r, 1, none⟩ y) := by
  subst hvn hvb
  exact ⟨⟨_, rfl, va, vc, rfl, ((hf.set (p := ⟨r, 0, none⟩) hrB _).set (p := ⟨r, 1, none⟩) hrB _).mono (by omega)⟩, (hb.setCell (p := ⟨r, 0, none⟩) hr _).setCell (p := ⟨r, 1, none⟩) hr _⟩

set_option maxRecDepth 100000 in
set_option maxHeartbeats 8000000 in
theorem or_left (B : Nat) (a b : Option Addr) (c d n m : Nat) (nw : Bool) (l : List (Int × Int)) (w : World) (hm : m ≤ 9000) (hn : m = l.length) (hr : FaB B w (.slice b m d) l) :
    Calls Try.prog 18 #[.agg #[.bool true, .slice a n c], .agg #[.bool nw, .slice b m d]] w (FcPost (andF ⟨nw, l⟩ fcs0) w) := by
  obtain ⟨W, hW⟩ : ∃ W, W = ((w.alloc (.cells #[.bool true, .slice a n c] 36)).alloc (.cells #[.bool nw, .slice b m d] 36)).alloc (.cells #[.bool false, .slice none 0 0] 36) := ⟨_, rfl⟩
  have hbr : Bx W (w.heap.size + 1 + 1) 36 #[.bool false, .slice none 0 0] := by rw [hW]; exact alloc_at (by simp)
  have hbl : Below w.heap.size w W := by rw [hW]; exact (((Below.refl _ _).alloc (Nat.le_refl _) _).alloc (by simp) _).alloc (by simp <;> omega) _
  have hsz : W.heap.size = w.heap.size + 1 + 1 + 1 := by rw [hW]; simp
  have HC := Lib.hid (and_go B 0 b none d 0 m 0 ⟨nw, l⟩ fcs0 W (by omega) hn rfl (hr.below hbl) (FaB.nil 0 W none 0))
  have HR := Lib.hid hbr
  have HL := Lib.hid hbl
  have HSZ := Lib.hid hsz
  have HW := Lib.hid hW
  clear hbr hbl hsz hW hr hn hm
  go_enter Try.func18, Try.ntmps18
  go_wp2_with fail
  rw [← HW.out]
  refine HC.out.mono ?_
  rintro e w1 ⟨⟨v, rfl, va, vc, rfl, hfa⟩, hb1⟩
  obtain ⟨vn, hvn⟩ : ∃ x, x = (andF ⟨nw, l⟩ fcs0).l.length := ⟨_, rfl⟩
  obtain ⟨vb, hvb⟩ : ∃ x, x = (andF ⟨nw, l⟩ fcs0).never := ⟨_, rfl⟩
  rw [← hvn] at hfa ⊢
  rw [← hvb]
  have hr1 := HR.out.keep hb1
  have r0 := hr1.c0
  have r1 := hr1.c1
  have f0 := hr1.fr 0
  have f1 := hr1.fr 1
  have HFA := Lib.hid hfa
  have HB1 := Lib.hid (HL.out.trans (hb1.mono HL.out.size))
  have HVN := Lib.hid hvn
  have HVB := Lib.hid hvb
  clear hr1 hfa hb1 hvn hvb HC HW
  go_wp2
  refine bodyPost_ret (v := .agg #[.bool vb, .slice va vn vc]) ?_ ?_ ?_
  · simp [results, Try.results18, go_sem, r0, r1]
  · rfl
  · exact fc_pass (by omega) (by have := HSZ.out; omega) HVN.out HVB.out HFA.out HB1.out

set_option maxRecDepth 100000 in
set_option maxHeartbeats 8000000 in
theorem or_right (B : Nat) (a b : Option Addr) (c d n m : Nat) (l : List (Int × Int)) (w : World) (hm : n ≤ 9000) (hn : n = l.length) (hr : FaB B w (.slice a n c) l) :
    Calls Try.prog 18 #[.agg #[.bool false, .slice a n c], .agg #[.bool true, .slice b m d]] w (FcPost (andF ⟨false, l⟩ fcs0) w) := by
  obtain ⟨W, hW⟩ : ∃ W, W = ((w.alloc (.cells #[.bool false, .slice a n c] 36)).alloc (.cells #[.bool true, .slice b m d] 36)).alloc (.cells #[.bool false, .slice none 0 0] 36) := ⟨_, rfl⟩
  have hbr : Bx W (w.heap.size + 1 + 1) 36 #[.bool false, .slice none 0 0] := by rw [hW]; exact alloc_at (by simp)
  have hbl : Below w.heap.size w W := by rw [hW]; exact (((Below.refl _ _).alloc (Nat.le_refl _) _).alloc (by simp) _).alloc (by simp <;> omega) _
  have hsz : W.heap.size = w.heap.size + 1 + 1 + 1 := by rw [hW]; simp
  have HC := Lib.hid (and_go B 0 a none c 0 n 0 ⟨false, l⟩ fcs0 W (by omega) hn rfl (hr.below hbl) (FaB.nil 0 W none 0))
  have HR := Lib.hid hbr
  have HL := Lib.hid hbl
  have HSZ := Lib.hid hsz
  have HW := Lib.hid hW
  clear hbr hbl hsz hW hr hn hm
  go_enter Try.func18, Try.ntmps18
  go_wp2_with fail
  rw [← HW.out]
  refine HC.out.mono ?_
  rintro e w1 ⟨⟨v, rfl, va, vc, rfl, hfa⟩, hb1⟩
  obtain ⟨vn, hvn⟩ : ∃ x, x = (andF ⟨false, l⟩ fcs0).l.length := ⟨_, rfl⟩
  obtain ⟨vb, hvb⟩ : ∃ x, x = (andF ⟨false, l⟩ fcs0).never := ⟨_, rfl⟩
  rw [← hvn] at hfa ⊢
  rw [← hvb]
  have hr1 := HR.out.keep hb1
  have r0 := hr1.c0
  have r1 := hr1.c1
  have f0 := hr1.fr 0
  have f1 := hr1.fr 1
  have HFA := Lib.hid hfa
  have HB1 := Lib.hid (HL.out.trans (hb1.mono HL.out.size))
  have HVN := Lib.hid hvn
  have HVB := Lib.hid hvb
  clear hr1 hfa hb1 hvn hvb HC HW
  go_wp2
  refine bodyPost_ret (v := .agg #[.bool vb, .slice va vn vc]) ?_ ?_ ?_
  · simp [results, Try.results18, go_sem, r0, r1]
  · rfl
  · exact fc_pass (by omega) (by have := HSZ.out; omega) HVN.out HVB.out HFA.out HB1.out

set_option maxRecDepth 100000 in
set_option maxHeartbeats 16000000 in
theorem or_some (B B' : Nat) (a b : Option Addr) (c d n m : Nat) (l k : List (Int × Int)) (w : World) (hm : n + m ≤ 10000) (hn : n = l.length) (hk : m = k.length) (hr : FaB B w (.slice a n c) l) (hs : FaB B' w (.slice b m d) k) :
    Calls Try.prog 18 #[.agg #[.bool false, .slice a n c], .agg #[.bool false, .slice b m d]] w (FcPost ⟨false, orL l k⟩ w) := by
  obtain ⟨i0, hi, hz0, hz1, hz2⟩ := info_parts Try.infoFaR
  have HN := Lib.hid hn
  have HK := Lib.hid hk
  have b1 : (n : Int) ≤ 10000 := by omega
  have b2 : (m : Int) ≤ 10000 := by omega
  have HM := Lib.hid hm
  obtain ⟨W, hW⟩ : ∃ W, W = (((w.alloc (.cells #[.bool false, .slice a n c] 36)).alloc (.cells #[.bool false, .slice b m d] 36)).alloc (.cells #[.bool false, .slice none 0 0] 36)).alloc (.cells #[.bool false, .slice none 0 0] 36) := ⟨_, rfl⟩
  have hbx : Bx W w.heap.size 36 #[.bool false, .slice a n c] := by rw [hW]; exact alloc_past (alloc_past (alloc_past (alloc_at rfl) (by simp)) (by simp <;> omega)) (by simp <;> omega)
  have hby : Bx W (w.heap.size + 1) 36 #[.bool false, .slice b m d] := by rw [hW]; exact alloc_past (alloc_past (alloc_at (by simp)) (by simp)) (by simp <;> omega)
  have hbr : Bx W (w.heap.size + 1 + 1) 36 #[.bool false, .slice none 0 0] := by rw [hW]; exact alloc_past (alloc_at (by simp)) (by simp)
  have hbo : Bx W (w.heap.size + 1 + 1 + 1) 36 #[.bool false, .slice none 0 0] := by rw [hW]; exact alloc_at (by simp)
  have hbl : Below w.heap.size w W := by rw [hW]; exact ((((Below.refl _ _).alloc (Nat.le_refl _) _).alloc (by simp) _).alloc (by simp <;> omega) _).alloc (by simp <;> omega) _
  have hsz : W.heap.size = w.heap.size + 1 + 1 + 1 + 1 := by rw [hW]; simp
  have x0 := hbx.c0
  have x1 := hbx.c1
  have y0 := hby.c0
  have y1 := hby.c1
  have hr' := hr.below hbl
  have hs' := hs.below hbl
  have HV := Lib.hid (vars_go B B' a b c d n m false false l k W (by omega) hn hk hr' hs')
  have HX := Lib.hid hbx
  have HY := Lib.hid hby
  have HR := Lib.hid hbr
  have HO := Lib.hid hbo
  have HL := Lib.hid hbl
  have HF1 := Lib.hid hr
  have HF2 := Lib.hid hs
  have HSZ := Lib.hid hsz
  have HW := Lib.hid hW
  clear hbx hby hbr hbo hbl hr' hs' hr hs hsz hW hn hk hm
  go_enter Try.func18, Try.ntmps18
  go_wp2_with fail
  rw [← HW.out]
  refine HV.out.mono ?_
  rintro e w1 ⟨⟨ov, o, rfl, how, hvv, hle⟩, hb1⟩
  have hon : ∃ oa oc, ov = .slice oa o.length oc ∧ ∀ i, i < o.length → ∃ q, oa = some ⟨q, 0, none⟩ ∧ w.heap.size + 1 + 1 + 1 + 1 ≤ q ∧ q < w1.heap.size ∧ w1.cell? ⟨q, i, none⟩ = some (.int .i64 (o.getD i 0)) := by
    have hc := @World.ownsRow.cells _ _ _ _ _ _ _ how
    rcases how.2 with ⟨rfl, h0⟩ | ⟨q, oc, cur, rfl, hB, hg, hn, hr⟩
    · exact ⟨none, 0, by rw [h0], fun i hi => by omega⟩
    · refine ⟨_, oc, rfl, fun i hi => ⟨q, rfl, by rw [← HSZ.out]; exact hB, (Array.getElem?_eq_some_iff.1 hg).1, ?_⟩⟩
      have := hc (g := q) rfl i _ (intCells_get o i hi)
      rwa [add_none] at this
  obtain ⟨oa, oc, rfl, hoc⟩ := hon
  obtain ⟨N, hN⟩ : ∃ N, N = o.length := ⟨_, rfl⟩
  rw [← hN] at hoc ⊢
  have bN : (N : Int) ≤ 10000 := by have := HM.out; omega
  have HX1 := Lib.hid (HX.out.keep hb1)
  have HY1 := Lib.hid (HY.out.keep hb1)
  have HR1 := Lib.hid (HR.out.keep hb1)
  have HO1 := Lib.hid (HO.out.keep hb1)
  have HL1 := Lib.hid (HL.out.trans (hb1.mono HL.out.size))
  have HSL := Lib.hid (sel_or hvv)
  have HNN := Lib.hid hN
  have HOC := Lib.hid hoc
  have hs1 : w.heap.size + 1 + 1 + 1 + 1 ≤ w1.heap.size := by have := hb1.size; rw [HSZ.out] at this; exact this
  have HS1 := Lib.hid hs1
  clear how hvv hle hb1 hoc hN hs1 x0 x1 y0 y1 HX HY HR HO HL HSZ HW HV
  go_wp2
  go_loopw [7] (fun iv wr => SelRel (cOr l k) (gOr l k) N (w.heap.size + 1 + 1 + 1) o w1 iv wr) (fun iv _ => N - (intOf iv).toNat)
  case atStart => exact ⟨0, none, 0, 0, Nat.zero_le _, rfl, Nat.le_refl _, Lib.hid rfl, HO1, Lib.hid (World.ownsRow_nil _ _ _ _), Lib.hid (But.refl _ _)⟩
  case round =>
    obtain ⟨i, ra, rn, rc, hi1, rfl, hrn, HRN, HRB, HROW, HRL⟩ := hrel
    have hs1 := HS1.out
    by_cases hlt : i < N
    · obtain ⟨q, rfl, hq1, hq2, hcell⟩ := HOC.out i hlt
      obtain ⟨x, hx⟩ : ∃ x, o.getD i 0 = x := ⟨_, rfl⟩
      rw [hx] at hcell
      have hqr : q ≠ w.heap.size + 1 + 1 + 1 := by omega
      have hxr := (HX1.out.but HRL.out (by omega))
      have hyr := (HY1.out.but HRL.out (by omega))
      have hqw : q < wr.heap.size := Nat.lt_of_lt_of_le hq2 HRL.out.size
      have hbw : Below w.heap.size w wr := HL1.out.trans (HRL.out.below (by omega) (by omega))
      have px0 := SubW.cell hxr.c0 hxr.lt
      have px1 := SubW.cell hxr.c1 hxr.lt
      have py0 := SubW.cell hyr.c0 hyr.lt
      have py1 := SubW.cell hyr.c1 hyr.lt
      have po := SubW.cell ((HRL.out.cell (p := ⟨q, i, none⟩) hq2 hqr).trans hcell) hqw
      have TG1 := Lib.hid fun p : SubW wr => tags_go B a c n false l x p.wx (by have := HM.out; omega) HN.out ((HF1.out.below hbw).below p.h)
      have TG2 := Lib.hid fun p : SubW wr => tags_go B' b d m false k x p.wx (by have := HM.out; omega) HK.out ((HF2.out.below hbw).below p.h)
      obtain ⟨t1, ht1⟩ : ∃ t, t = lk l x := ⟨_, rfl⟩
      obtain ⟨t2, ht2⟩ : ∃ t, t = lk k x := ⟨_, rfl⟩
      have hand := i64_or (ht1 ▸ lk_lt l x) (ht2 ▸ lk_lt k x)
      obtain ⟨y, hy⟩ : ∃ y : Int, y = ((t1 ||| t2 : Nat) : Int) := ⟨_, rfl⟩
      rw [← hy] at hand
      rw [← ht1] at TG1
      rw [← ht2] at TG2
      have HXO := Lib.hid hx
      have HYY := Lib.hid (show y = (gOr l k x : Int) by rw [hy, ht1, ht2]; rfl)
      have h0 : (0 : Int) ≤ (i : Int) := Int.natCast_nonneg _
      have h1 : (i : Int) < (N : Int) := by omega
      have HBW0 := Lib.hid hbw
      clear hx hxr hyr hbw ht1 ht2 hy
      go_wp2
      refine wp_region_sub (by kernel_rfl) (by kernel_rfl) ?_
      repeat (quiet_step (first | exact rfl | (go_at_call 47; first | (with_reducible exact Calls.sub_of _ (TG1.out _)) | exact Calls.sub_of _ (TG2.out _))))
      refine wpQuiet_nil ?_
      intro wq hw'
      obtain ⟨⟨wz', hbq⟩, hw''⟩ := hw'
      (try dsimp only at hw'')
      subst hw''
      (try dsimp only)
      have BQ := Lib.hid hbq
      have hci : wq.cell? ⟨q, i, none⟩ = some (.int .i64 x) := po ⟨wq, hbq⟩
      have hcb : wq.cell? ⟨w.heap.size + 1 + 1 + 1, 1, none⟩ = some (.slice ra rn rc) := (HRB.out.keep hbq).c1
      have hqq : q < wq.heap.size := Nat.lt_of_lt_of_le hqw hbq.size
      clear hbq px0 px1 py0 py1 po TG1 TG2 hand
      have HBX0 := Lib.hid (HRB.out.keep BQ.out)
      have HBW0' := Lib.hid (HRL.out.then BQ.out)
      have HRO := Lib.hid (own_block HROW.out (w' := wq) fun g' hg' => BQ.out.block g' (own_lt HROW.out hg'))
      obtain ⟨wp, hwp⟩ : ∃ wp : World, wp = wq := ⟨_, rfl⟩
      rw [← hwp] at hci hcb hqq HBX0 HBW0' HRO BQ ⊢
      have hxr := (HX1.out.but HBW0'.out (by omega))
      have hyr := (HY1.out.but HBW0'.out (by omega))
      have px0 := SubW.cell hxr.c0 hxr.lt
      have px1 := SubW.cell hxr.c1 hxr.lt
      have py0 := SubW.cell hyr.c0 hyr.lt
      have py1 := SubW.cell hyr.c1 hyr.lt
      have po := SubW.cell hci hqq
      have hbw2 : Below w.heap.size w wp := HL1.out.trans (HBW0'.out.below (by omega) (by omega))
      have TH1 := Lib.hid fun p : SubW wp => has_go B a c n false l x p.wx (by have := HM.out; omega) HN.out ((HF1.out.below hbw2).below p.h)
      have TH2 := Lib.hid fun p : SubW wp => has_go B' b d m false k x p.wx (by have := HM.out; omega) HK.out ((HF2.out.below hbw2).below p.h)
      clear hwp hxr hyr hbw2 wq BQ
      cases hh1 : hasV l x with
      | false =>
        have HSE := Lib.hid (show selF (cOr l k) (gOr l k) x = none by unfold selF cOr; rw [hh1]; rfl)
        rw [hh1] at TH1
        clear hh1 TH2 py0 py1
        go_wp2
        refine wp_region_sub (by kernel_rfl) (by kernel_rfl) ?_
        repeat (quiet_step (first | exact rfl | (go_at_call 49; first | (with_reducible exact Calls.sub_of _ (TH1.out _)) | exact Calls.sub_of _ (TH2.out _))))
        refine wpQuiet_nil ?_
        intro wq hw'
        obtain ⟨⟨wz', hbq⟩, hw''⟩ := hw'
        (try dsimp only at hw'')
        subst hw''
        (try dsimp only)
        have BQ := Lib.hid hbq
        clear hbq
        go_wp2
        exact sel_skip (x := x) hlt HNN.out hrn HXO.out HRN.out HBX0.out HSE.out HBW0'.out BQ.out HRO.out (by go_num)
      | true =>
        cases hh2 : hasV k x with
        | false =>
          have HSE := Lib.hid (show selF (cOr l k) (gOr l k) x = none by unfold selF cOr; rw [hh1, hh2]; rfl)
          rw [hh1] at TH1
          rw [hh2] at TH2
          clear hh1 hh2
          go_wp2
          refine wp_region_sub (by kernel_rfl) (by kernel_rfl) ?_
          repeat (quiet_step (first | exact rfl | (go_at_call 49; first | (with_reducible exact Calls.sub_of _ (TH1.out _)) | exact Calls.sub_of _ (TH2.out _))))
          refine wpQuiet_nil ?_
          intro wq hw'
          obtain ⟨⟨wz', hbq⟩, hw''⟩ := hw'
          (try dsimp only at hw'')
          subst hw''
          (try dsimp only)
          have BQ := Lib.hid hbq
          clear hbq
          go_wp2
          exact sel_skip (x := x) hlt HNN.out hrn HXO.out HRN.out HBX0.out HSE.out HBW0'.out BQ.out HRO.out (by go_num)
        | true =>
          have hc : cOr l k x = true := by unfold cOr; rw [hh1, hh2]; rfl
          rw [hh1] at TH1
          rw [hh2] at TH2
          clear hh1 hh2
          by_cases h255 : y = 255
          · have k1 : (y != 255) = false := by simp [h255]
            have HSE := Lib.hid (show selF (cOr l k) (gOr l k) x = none by unfold selF; rw [if_neg]; have := HYY.out; simp; omega)
            clear h255 hc
            go_wp2
            refine wp_region_sub (by kernel_rfl) (by kernel_rfl) ?_
            repeat (quiet_step (first | exact rfl | (go_at_call 49; first | (with_reducible exact Calls.sub_of _ (TH1.out _)) | exact Calls.sub_of _ (TH2.out _))))
            refine wpQuiet_nil ?_
            intro wq hw'
            obtain ⟨⟨wz', hbq⟩, hw''⟩ := hw'
            (try dsimp only at hw'')
            subst hw''
            (try dsimp only)
            have BQ := Lib.hid hbq
            clear hbq
            go_wp2
            exact sel_skip (x := x) hlt HNN.out hrn HXO.out HRN.out HBX0.out HSE.out HBW0'.out BQ.out HRO.out (by go_num)
          · have k1 : (y != 255) = true := by simp [h255]
            have HSE := Lib.hid (show selF (cOr l k) (gOr l k) x = some (x, (gOr l k x : Int)) by unfold selF; rw [hc, if_pos]; have := HYY.out; simp; omega)
            clear h255 hc
            go_wp2
            refine wp_region_sub (by kernel_rfl) (by kernel_rfl) ?_
            repeat (quiet_step (first | exact rfl | (go_at_call 49; first | (with_reducible exact Calls.sub_of _ (TH1.out _)) | exact Calls.sub_of _ (TH2.out _))))
            refine wpQuiet_nil ?_
            intro wq hw'
            obtain ⟨⟨wz', hbq⟩, hw''⟩ := hw'
            (try dsimp only at hw'')
            subst hw''
            (try dsimp only)
            have BQ := Lib.hid hbq
            have hci : wq.cell? ⟨q, i, none⟩ = some (.int .i64 x) := po ⟨wq, hbq⟩
            have hcb : wq.cell? ⟨w.heap.size + 1 + 1 + 1, 1, none⟩ = some (.slice ra rn rc) := (HBX0.out.keep hbq).c1
            have hqq : q < wq.heap.size := Nat.lt_of_lt_of_le hqq hbq.size
            clear hbq px0 px1 py0 py1 po TH1 TH2
            have HBQ := Lib.hid (HBX0.out.keep BQ.out)
            have HOWQ := Lib.hid (own_block HRO.out (w' := wq) fun g' hg' => BQ.out.block g' (own_lt HRO.out hg'))
            have HBW := Lib.hid (HBW0'.out.then BQ.out)
            have HWQ := Lib.hid (show w1.heap.size ≤ wq.heap.size from HBW.out.size)
            have HOL := Lib.hid (show ∀ g, Value.ownBlock (.slice ra rn rc) = some g → w1.heap.size ≤ g from fun g hg => (HROW.out.lt g hg).1)
            have HRQ := Lib.hid (show w.heap.size + 1 + 1 + 1 < w1.heap.size by omega)
            have bR : (rn : Int) ≤ 10000 := by omega
            obtain ⟨X, hX⟩ : ∃ X, X = fasCells ((o.take i).filterMap (selF (cOr l k) (gOr l k))) := ⟨_, rfl⟩
            have HXC := Lib.hid hX
            rw [← hX] at HOWQ
            clear hX
            go_upto_region 12 with fail
            (try dsimp only [List.append])
            refine wp_region_noPanic ?_
            refine wp_region_held_drew (S := (fun w' => w'.cell? ⟨q, i, none⟩ = some (.int .i64 x))) (by kernel_rfl) (by (try dsimp only); exact hci) (fun hHeld => ?_)
            refine' tk_any 0 59 (v := _) ?hi517 ?hd517 (by kernel_rfl) (by kernel_rfl) (by kernel_rfl) (fun _ _ _ h => h) ?hy517 hHeld ?hr517
            case hi517 => (simp only [List.getElem?_toArray, List.getElem?_cons_zero]; rfl)
            case hd517 => rfl
            case hy517 =>
              refine' Or.inl ⟨?hw517, ?hx517⟩
              case hw517 => rfl
              case hx517 => (intro w hSw; (try dsimp only at hSw); go_simp; (try with_reducible rfl))
            (try simp only [Act.put, List.setIfInBounds_toArray, List.set_cons_zero, List.set_cons_succ])
            refine' tk_any 2 61 (v := _) ?hi518 ?hd518 (by kernel_rfl) (by kernel_rfl) (by kernel_rfl) (fun _ _ _ h => h) ?hy518 hHeld ?hr518
            case hi518 => (simp only [List.getElem?_toArray, List.getElem?_cons_succ, List.getElem?_cons_zero]; rfl)
            case hd518 => rfl
            case hy518 =>
              refine' Or.inl ⟨?hw518, ?hx518⟩
              case hw518 => rfl
              case hx518 => (intro w hSw; (try dsimp only at hSw); go_simp; (try with_reducible rfl))
            (try simp only [Act.put, List.setIfInBounds_toArray, List.set_cons_zero, List.set_cons_succ])
            refine' tk_any 3 62 (v := _) ?hi519 ?hd519 (by kernel_rfl) (by kernel_rfl) (by kernel_rfl) (fun _ _ _ h => h) ?hy519 hHeld ?hr519
            case hi519 => (simp only [List.getElem?_toArray, List.getElem?_cons_succ, List.getElem?_cons_zero]; rfl)
            case hd519 => rfl
            case hy519 =>
              refine' Or.inl ⟨?hw519, ?hx519⟩
              case hw519 => rfl
              case hx519 => (intro w hSw; (try dsimp only at hSw); go_simp; (try with_reducible rfl))
            (try simp only [Act.put, List.setIfInBounds_toArray, List.set_cons_zero, List.set_cons_succ])
            refine' tk_any 4 63 (v := _) ?hi520 ?hd520 (by kernel_rfl) (by kernel_rfl) (by kernel_rfl) (fun _ _ _ h => h) ?hy520 hHeld ?hr520
            case hi520 => (simp only [List.getElem?_toArray, List.getElem?_cons_succ, List.getElem?_cons_zero]; rfl)
            case hd520 => rfl
            case hy520 =>
              refine' Or.inl ⟨?hw520, ?hx520⟩
              case hw520 => rfl
              case hx520 => (intro w hSw; (try dsimp only at hSw); go_simp; (try with_reducible rfl))
            (try simp only [Act.put, List.setIfInBounds_toArray, List.set_cons_zero, List.set_cons_succ])
            refine' tk_any 5 64 (v := _) ?hi521 ?hd521 (by kernel_rfl) (by kernel_rfl) (by kernel_rfl) (fun _ _ _ h => h) ?hy521 hHeld ?hr521
            case hi521 => (simp only [List.getElem?_toArray, List.getElem?_cons_succ, List.getElem?_cons_zero]; rfl)
            case hd521 => rfl
            case hy521 =>
              refine' Or.inl ⟨?hw521, ?hx521⟩
              case hw521 => rfl
              case hx521 => (intro w hSw; (try dsimp only at hSw); go_simp; (try with_reducible rfl))
            (try simp only [Act.put, List.setIfInBounds_toArray, List.set_cons_zero, List.set_cons_succ])
            refine' tk_any 6 65 (v := _) ?hi522 ?hd522 (by kernel_rfl) (by kernel_rfl) (by kernel_rfl) (fun _ _ _ h => h) ?hy522 hHeld ?hr522
            case hi522 => (simp only [List.getElem?_toArray, List.getElem?_cons_succ, List.getElem?_cons_zero]; rfl)
            case hd522 => rfl
            case hy522 =>
              refine' Or.inl ⟨?hw522, ?hx522⟩
              case hw522 => rfl
              case hx522 => (intro w hSw; (try dsimp only at hSw); go_simp; (try with_reducible rfl))
            (try simp only [Act.put, List.setIfInBounds_toArray, List.set_cons_zero, List.set_cons_succ])
            refine' tk_any 7 66 (v := _) ?hi523 ?hd523 (by kernel_rfl) (by kernel_rfl) (by kernel_rfl) (fun _ _ _ h => h) ?hy523 hHeld ?hr523
            case hi523 => (simp only [List.getElem?_toArray, List.getElem?_cons_succ, List.getElem?_cons_zero]; rfl)
            case hd523 => rfl
            case hy523 =>
              refine' Or.inl ⟨?hw523, ?hx523⟩
              case hw523 => rfl
              case hx523 => (intro w hSw; (try dsimp only at hSw); go_simp; (try with_reducible rfl))
            (try simp only [Act.put, List.setIfInBounds_toArray, List.set_cons_zero, List.set_cons_succ])
            refine' tk_two 1 8 ?hi532 ?hj532 (by kernel_rfl) ?ha532 ?hb532
            case hi532 => (simp only [List.getElem?_toArray, List.getElem?_cons_succ, List.getElem?_cons_zero]; rfl)
            case hj532 => (simp only [List.getElem?_toArray, List.getElem?_cons_succ, List.getElem?_cons_zero]; rfl)
            case ha532 =>
              intro K hK
              go_simp
              clear hHeld
              refine hK.out _ _ (by (try dsimp only); exact hci) (fun hHeld => ?_)
              clear hK K
              (try simp only [Act.put, List.setIfInBounds_toArray, List.set_cons_zero, List.set_cons_succ])
              refine' tk_call 8 ?hi524 (by kernel_rfl) ?hr524
              case hi524 => (simp only [List.getElem?_toArray, List.getElem?_cons_succ, List.getElem?_cons_zero]; rfl)
              intro K hK
              go_simp
              obtain ⟨wA, hwA⟩ : ∃ wA : World, wA = (wq.alloc (.cells #[.int .i64 x, .int .i64 y] 76)).drew := ⟨_, rfl⟩
              rw [← hwA]
              have hAB : Below wq.heap.size wq wA := by rw [hwA]; exact ((Below.refl _ _).alloc (Nat.le_refl _) _).drew
              have hAi : wA.cell? ⟨q, i, none⟩ = some (.int .i64 x) := (hAB.cell (p := ⟨q, i, none⟩) hqq).trans hci
              have hAc : wA.cell? ⟨w.heap.size + 1 + 1 + 1, 1, none⟩ = some (.slice ra rn rc) := (hAB.cell (p := ⟨_, 1, none⟩) HBQ.out.lt).trans hcb
              have HNB := Lib.hid (show wA.heap[wq.heap.size]? = some (.cells #[.int .i64 x, .int .i64 y] 76 (0, 0)) by rw [hwA]; exact alloc_at (w := wq) rfl)
              have HOA := Lib.hid (own_block HOWQ.out (w' := wA) fun g' hg' => hAB.block g' (own_lt HOWQ.out hg'))
              have HAS := Lib.hid (show wA.heap.size = wq.heap.size + 1 by rw [hwA]; simp)
              have HW1 := Lib.hid (show w1.heap.size ≤ wA.heap.size from Nat.le_trans HWQ.out hAB.size)
              have HAB := Lib.hid hAB
              clear hAB hwA
              clear hHeld
              refine hK.out _ _ (by (try dsimp only); exact hAi) (fun hHeld => ?_)
              clear hK K
              (try simp only [Act.put, List.setIfInBounds_toArray, List.set_cons_zero, List.set_cons_succ])
              refine' tk_call 9 ?hi525 (by kernel_rfl) ?hr525
              case hi525 => (simp only [List.getElem?_toArray, List.getElem?_cons_succ, List.getElem?_cons_zero]; rfl)
              intro K hK
              refine step_append_lies _ (by rfl) _ _ _ (by rfl) w1.heap.size 76 i0 _ 2 16 Try.underlying34 hi hz0 hz1 hz2 rfl (by omega) (.slice ra rn rc) rn X (by rfl) HOA.out ⟨wq.heap.size, 0, none⟩ 1 1 [.int .i64 x, .int .i64 y] (by rfl) (by rfl) (World.news_of_block (cs := #[.int .i64 x, .int .i64 y]) (t := 76) (fr := (0, 0)) HNB.out) (by simp [Value.oneCell']) (by omega) (by unfold maxLen; omega) (by omega) HW1.out wA.heap.size rfl ?_
              intro gg cap' w9 hown9 hgrow9 hat9 hlt9
              have hb9 : But (w.heap.size + 1 + 1 + 1) w1 w9 := (HBW.out.then HAB.out).grown hgrow9 HOL.out
              have hbx9 := app_box HBQ.out HAB.out hgrow9 HOL.out HRQ.out
              have hc9 : w9.cell? ⟨w.heap.size + 1 + 1 + 1, 1, none⟩ = some (.slice ra rn rc) := hbx9.c1
              have hf9 : w9.frozen? ⟨w.heap.size + 1 + 1 + 1, 1, none⟩ = false := hbx9.fr 1
              have hi9 : w9.cell? ⟨q, i, none⟩ = some (.int .i64 x) := (hb9.cell (p := ⟨q, i, none⟩) hq2 hqr).trans hcell
              have hgr9 : gg ≠ w.heap.size + 1 + 1 + 1 := app_ne HAB.out hat9 HOL.out HRQ.out HWQ.out
              have HB9 := Lib.hid hb9
              have HBX9 := Lib.hid hbx9
              have HOWN9 := Lib.hid hown9
              have HGR9 := Lib.hid hgr9
              clear hb9 hbx9 hown9 hgrow9 hat9 hlt9 hgr9
              clear hHeld
              refine hK.out _ _ (by (try dsimp only); exact hi9) (fun hHeld => ?_)
              clear hK K
              (try simp only [Act.put, List.setIfInBounds_toArray, List.set_cons_zero, List.set_cons_succ])
              refine' tk_any 10 69 (v := _) ?hi526 ?hd526 (by kernel_rfl) (by kernel_rfl) (by kernel_rfl) (fun _ _ _ h => h) ?hy526 hHeld ?hr526
              case hi526 => (simp only [List.getElem?_toArray, List.getElem?_cons_succ, List.getElem?_cons_zero]; rfl)
              case hd526 => rfl
              case hy526 =>
                refine' Or.inl ⟨?hw526, ?hx526⟩
                case hw526 => rfl
                case hx526 => (intro w hSw; (try dsimp only at hSw); go_simp; (try with_reducible rfl))
              (try simp only [Act.put, List.setIfInBounds_toArray, List.set_cons_zero, List.set_cons_succ])
              refine' tk_call 11 ?hi527 (by kernel_rfl) ?hr527
              case hi527 => (simp only [List.getElem?_toArray, List.getElem?_cons_succ, List.getElem?_cons_zero]; rfl)
              intro K hK
              go_simp
              clear hHeld
              refine hK.out _ _ (by (try dsimp only); exact set_blk hqr hi9) (fun hHeld => ?_)
              clear hK K
              (try simp only [Act.put, List.setIfInBounds_toArray, List.set_cons_zero, List.set_cons_succ])
              refine wpAnyH_done (by kernel_rfl) ?_ _
              refine NoPanic.normal ?_
              go_wp2
              exact sel_end (x := x) hlt HNN.out hrn HXO.out HRN.out HSE.out HB9.out HBX9.out (by have h := HOWN9.out; rw [HXC.out, HYY.out] at h; exact h) HGR9.out (by go_num)
            case hb532 =>
              intro K hK
              go_simp
              obtain ⟨wA, hwA⟩ : ∃ wA : World, wA = (wq.alloc (.cells #[.int .i64 x, .int .i64 y] 76)).drew := ⟨_, rfl⟩
              rw [← hwA]
              have hAB : Below wq.heap.size wq wA := by rw [hwA]; exact ((Below.refl _ _).alloc (Nat.le_refl _) _).drew
              have hAi : wA.cell? ⟨q, i, none⟩ = some (.int .i64 x) := (hAB.cell (p := ⟨q, i, none⟩) hqq).trans hci
              have hAc : wA.cell? ⟨w.heap.size + 1 + 1 + 1, 1, none⟩ = some (.slice ra rn rc) := (hAB.cell (p := ⟨_, 1, none⟩) HBQ.out.lt).trans hcb
              have HNB := Lib.hid (show wA.heap[wq.heap.size]? = some (.cells #[.int .i64 x, .int .i64 y] 76 (0, 0)) by rw [hwA]; exact alloc_at (w := wq) rfl)
              have HOA := Lib.hid (own_block HOWQ.out (w' := wA) fun g' hg' => hAB.block g' (own_lt HOWQ.out hg'))
              have HAS := Lib.hid (show wA.heap.size = wq.heap.size + 1 by rw [hwA]; simp)
              have HW1 := Lib.hid (show w1.heap.size ≤ wA.heap.size from Nat.le_trans HWQ.out hAB.size)
              have HAB := Lib.hid hAB
              clear hAB hwA
              clear hHeld
              refine hK.out _ _ (by (try dsimp only); exact hAi) (fun hHeld => ?_)
              clear hK K
              (try simp only [Act.put, List.setIfInBounds_toArray, List.set_cons_zero, List.set_cons_succ])
              refine' tk_call 1 ?hi528 (by kernel_rfl) ?hr528
              case hi528 => (simp only [List.getElem?_toArray, List.getElem?_cons_succ, List.getElem?_cons_zero]; rfl)
              intro K hK
              go_simp
              clear hHeld
              refine hK.out _ _ (by (try dsimp only); exact hAi) (fun hHeld => ?_)
              clear hK K
              (try simp only [Act.put, List.setIfInBounds_toArray, List.set_cons_zero, List.set_cons_succ])
              refine' tk_call 9 ?hi529 (by kernel_rfl) ?hr529
              case hi529 => (simp only [List.getElem?_toArray, List.getElem?_cons_succ, List.getElem?_cons_zero]; rfl)
              intro K hK
              refine step_append_lies _ (by rfl) _ _ _ (by rfl) w1.heap.size 76 i0 _ 2 16 Try.underlying34 hi hz0 hz1 hz2 rfl (by omega) (.slice ra rn rc) rn X (by rfl) HOA.out ⟨wq.heap.size, 0, none⟩ 1 1 [.int .i64 x, .int .i64 y] (by rfl) (by rfl) (World.news_of_block (cs := #[.int .i64 x, .int .i64 y]) (t := 76) (fr := (0, 0)) HNB.out) (by simp [Value.oneCell']) (by omega) (by unfold maxLen; omega) (by omega) HW1.out wA.heap.size rfl ?_
              intro gg cap' w9 hown9 hgrow9 hat9 hlt9
              have hb9 : But (w.heap.size + 1 + 1 + 1) w1 w9 := (HBW.out.then HAB.out).grown hgrow9 HOL.out
              have hbx9 := app_box HBQ.out HAB.out hgrow9 HOL.out HRQ.out
              have hc9 : w9.cell? ⟨w.heap.size + 1 + 1 + 1, 1, none⟩ = some (.slice ra rn rc) := hbx9.c1
              have hf9 : w9.frozen? ⟨w.heap.size + 1 + 1 + 1, 1, none⟩ = false := hbx9.fr 1
              have hi9 : w9.cell? ⟨q, i, none⟩ = some (.int .i64 x) := (hb9.cell (p := ⟨q, i, none⟩) hq2 hqr).trans hcell
              have hgr9 : gg ≠ w.heap.size + 1 + 1 + 1 := app_ne HAB.out hat9 HOL.out HRQ.out HWQ.out
              have HB9 := Lib.hid hb9
              have HBX9 := Lib.hid hbx9
              have HOWN9 := Lib.hid hown9
              have HGR9 := Lib.hid hgr9
              clear hb9 hbx9 hown9 hgrow9 hat9 hlt9 hgr9
              clear hHeld
              refine hK.out _ _ (by (try dsimp only); exact hi9) (fun hHeld => ?_)
              clear hK K
              (try simp only [Act.put, List.setIfInBounds_toArray, List.set_cons_zero, List.set_cons_succ])
              refine' tk_any 10 69 (v := _) ?hi530 ?hd530 (by kernel_rfl) (by kernel_rfl) (by kernel_rfl) (fun _ _ _ h => h) ?hy530 hHeld ?hr530
              case hi530 => (simp only [List.getElem?_toArray, List.getElem?_cons_succ, List.getElem?_cons_zero]; rfl)
              case hd530 => rfl
              case hy530 =>
                refine' Or.inl ⟨?hw530, ?hx530⟩
                case hw530 => rfl
                case hx530 => (intro w hSw; (try dsimp only at hSw); go_simp; (try with_reducible rfl))
              (try simp only [Act.put, List.setIfInBounds_toArray, List.set_cons_zero, List.set_cons_succ])
              refine' tk_call 11 ?hi531 (by kernel_rfl) ?hr531
              case hi531 => (simp only [List.getElem?_toArray, List.getElem?_cons_succ, List.getElem?_cons_zero]; rfl)
              intro K hK
              go_simp
              clear hHeld
              refine hK.out _ _ (by (try dsimp only); exact set_blk hqr hi9) (fun hHeld => ?_)
              clear hK K
              (try simp only [Act.put, List.setIfInBounds_toArray, List.set_cons_zero, List.set_cons_succ])
              refine wpAnyH_done (by kernel_rfl) ?_ _
              refine NoPanic.normal ?_
              go_wp2
              exact sel_end (x := x) hlt HNN.out hrn HXO.out HRN.out HSE.out HB9.out HBX9.out (by have h := HOWN9.out; rw [HXC.out, HYY.out] at h; exact h) HGR9.out (by go_num)
    · have hin : i = N := by omega
      have hout := HRB.out
      have hrr := HR1.out.but HRL.out (by omega)
      have o0 := hout.c0
      have o1 := hout.c1
      have r0 := hrr.c0
      have r1 := hrr.c1
      have f0 := hrr.fr 0
      have f1 := hrr.fr 1
      have HRES := Lib.hid (sel_done hin HNN.out HRN.out HROW.out HSL.out)
      have HBL := Lib.hid (HL1.out.trans (HRL.out.below (B := w.heap.size) (by omega) (by omega)))
      clear hin hout hrr
      go_wp2
      refine bodyPost_ret (v := .agg #[.bool false, .slice ra rn rc]) ?_ ?_ ?_
      · simp [results, Try.results18, go_sem, r0, r1]
      · rfl
      · exact fc_done HRES.out HBL.out (by omega) (by omega) (by have h := HRES.out.1; unfold maxLen; omega)

theorem or_go (B B' : Nat) (a b : Option Addr) (c d n m : Nat) (F G : Fcs) (w : World) (hm : n + m ≤ 9000) (hn : n = F.l.length) (hk : m = G.l.length) (hr : FaB B w (.slice a n c) F.l) (hs : FaB B' w (.slice b m d) G.l) :
    Calls Try.prog 18 #[.agg #[.bool F.never, .slice a n c], .agg #[.bool G.never, .slice b m d]] w (FcPost (orF F G) w) := by
  unfold orF
  cases h : F.never with
  | true => rw [if_pos rfl]; exact or_left B' a b c d n m G.never G.l w (by omega) hk hs
  | false =>
    rw [if_neg (by simp)]
    cases h2 : G.never with
    | true =>
      rw [if_pos rfl]
      have e : F = ⟨false, F.l⟩ := by rw [← h]
      have := or_right B a b c d n m F.l w (by omega) hn hr
      rw [← e] at this
      exact this
    | false => rw [if_neg (by simp)]; exact or_some B B' a b c d n m F.l G.l w (by omega) hn hk hr hs
end Go.Proofs.Ytgjkobkcmgliaaa
