import Derived.Test.YtgjkobkcmgliaaaNwRa
import Derived.Test.YtgjkobkcmgliaaaNwAw
import Derived.Test.YtgjkobkcmgliaaaNwKt
import Derived.Test.YtgjkobkcmgliaaaTyC
import Derived.Test.YtgjkobkcmgliaaaTyD
namespace Go.Proofs.Ytgjkobkcmgliaaa
open Go.RowKit

theorem six_keep {w w' : World} {b o : Nat} {x0 x1 x2 x3 x4 x5 : Value} (h : w.cell? ⟨b, o, none⟩ = some (x0) ∧ w.cell? ⟨b, o + 1, none⟩ = some (x1) ∧ w.cell? ⟨b, o + 2, none⟩ = some (x2) ∧ w.cell? ⟨b, o + 3, none⟩ = some (x3) ∧ w.cell? ⟨b, o + 4, none⟩ = some (x4) ∧ w.cell? ⟨b, o + 5, none⟩ = some (x5)) (hb : b < w.heap.size) (hB : Below w.heap.size w w') : w'.cell? ⟨b, o, none⟩ = some (x0) ∧ w'.cell? ⟨b, o + 1, none⟩ = some (x1) ∧ w'.cell? ⟨b, o + 2, none⟩ = some (x2) ∧ w'.cell? ⟨b, o + 3, none⟩ = some (x3) ∧ w'.cell? ⟨b, o + 4, none⟩ = some (x4) ∧ w'.cell? ⟨b, o + 5, none⟩ = some (x5) :=
  ⟨(hB.cell (p := ⟨b, _, none⟩) hb).trans h.1, (hB.cell (p := ⟨b, _, none⟩) hb).trans h.2.1, (hB.cell (p := ⟨b, _, none⟩) hb).trans h.2.2.1, (hB.cell (p := ⟨b, _, none⟩) hb).trans h.2.2.2.1, (hB.cell (p := ⟨b, _, none⟩) hb).trans h.2.2.2.2.1, (hB.cell (p := ⟨b, _, none⟩) hb).trans h.2.2.2.2.2⟩
theorem sameT_self (t : Ty) : sameT t t = true := (sameT_iff t t).2 rfl
def NtA (n : Nat) (W : World) (ts : List Ty) (iv : Value) (wr : World) : Prop :=
  ∃ i : Nat, i ≤ n ∧ iv = .int .i64 i ∧ Hid (Below W.heap.size W wr) ∧ Hid (∀ j, j < i → HdT (ts.getD j ty0))
def NtB (n : Nat) (W : World) (iv : Value) (wr : World) : Prop :=
  ∃ i : Nat, i ≤ n ∧ iv = .int .i64 i ∧ Hid (Below W.heap.size W wr)

set_option maxRecDepth 100000 in
set_option maxHeartbeats 32000000 in
theorem ntypes_p (B : Nat) (ts : List Ty) (g : Int) (nv : Bool) (l : List (Int × Int)) (ea fa : Option Addr) (n m ec fc : Nat) (w : World) (hn : n = ts.length) (hnm : n ≤ maxLen) (hm : m = l.length) (hts : TyS w (Lo N0 w) (.slice ea n ec) ts) (hF : FaB B w (.slice fa m fc) l) :
    Calls Try.prog 5 #[.slice ea n ec, .int .i64 g, .agg #[.bool nv, .slice fa m fc]] w fun e w' => e = .returned (.bool true) ∧ Below w.heap.size w w' := by
  obtain ⟨W, hW⟩ : ∃ W, W = w.alloc (.cells #[.bool nv, .slice fa m fc] 30) := ⟨_, rfl⟩
  have HX := Lib.hid (show Bx W w.heap.size 30 #[.bool nv, .slice fa m fc] by rw [hW]; exact alloc_at rfl)
  have HL := Lib.hid (show Below w.heap.size w W by rw [hW]; exact (Below.refl _ _).alloc (Nat.le_refl _) _)
  have HTS := Lib.hid (TySN.below hts HL.out)
  have HF := Lib.hid (hF.below HL.out)
  have bn : (n : Int) ≤ 9223372036854775807 := by unfold maxLen at hnm; omega
  have bm : (m : Int) ≤ 9223372036854775807 := by
    have := hF.len; rw [← hm] at this; unfold maxLen at this; omega
  have HN := Lib.hid hn
  have HM := Lib.hid hm
  have HW := Lib.hid hW
  clear hn hm hts hF hW hnm
  go_enter Try.func5, Try.ntmps5
  go_wp2_with fail
  rw [← HW.out]
  refine (awake_p W).mono ?_
  rintro e w1 ⟨rfl, hb⟩
  replace HX := Lib.hid (HX.out.keep hb)
  replace HTS := Lib.hid (TySN.below HTS.out hb)
  replace HF := Lib.hid (HF.out.below hb)
  replace HL := Lib.hid (HL.out.trans (hb.mono HL.out.size))
  clear hb HW
  have px0 := HX.out.c0
  have px1 := HX.out.c1
  by_cases hc : n ≤ 8 ∧ m ≤ 30
  · obtain ⟨hn8, hm30⟩ := hc
    have HN8 := Lib.hid hn8
    have HM30 := Lib.hid hm30
    have g1 : ¬ (8 : Int) < (n : Int) := by omega
    have g2 : ¬ (30 : Int) < (m : Int) := by omega
    go_wp2
    go_loopw [8] (fun iv wr => NtA n w1 ts iv wr) (fun iv _ => n - (intOf iv).toNat)
    case atStart => exact ⟨0, Nat.zero_le _, rfl, Lib.hid (Below.refl _ _), Lib.hid fun j h => absurd h (Nat.not_lt_zero _)⟩
    case round =>
      clear px0 px1
      obtain ⟨i, hi1, rfl, HB, HD⟩ := hrel
      by_cases hlt : i < n
      · have hi0 : (0 : Int) ≤ (i : Int) := Int.natCast_nonneg _
        have hi2 : (i : Int) < (n : Int) := by omega
        have hil : i < ts.length := by rw [← HN.out]; exact hlt
        obtain ⟨d, hd⟩ : ∃ d, ts.getD i ty0 = d := ⟨_, rfl⟩
        obtain ⟨b, off, p1, c1, p2, c2, rfl, hb, e0, e1, e2, e3, e4, e5, hv⟩ := TySN.elem (TySN.below HTS.out HB.out) hil hd
        have HDD := Lib.hid hd
        have HV := Lib.hid hv
        have HS := Lib.hid (⟨e0, e1, e2, e3, e4, e5⟩ : wr.cell? ⟨b, off + i * 6, none⟩ = some (.bool d.all) ∧ wr.cell? ⟨b, off + i * 6 + 1, none⟩ = some (.int .i64 d.flat) ∧ wr.cell? ⟨b, off + i * 6 + 2, none⟩ = some (.int .i64 d.pair) ∧ wr.cell? ⟨b, off + i * 6 + 3, none⟩ = some (.slice p1 d.pairs.length c1) ∧ wr.cell? ⟨b, off + i * 6 + 4, none⟩ = some (.int .i64 d.fn) ∧ wr.cell? ⟨b, off + i * 6 + 5, none⟩ = some (.slice p2 d.funs.length c2))
        have HBB := Lib.hid hb
        clear hd hv hb
        go_wp2_with fail
        refine (light_any d _ wr (TyVN.v HV.out)).mono ?_
        rintro e w2 ⟨rfl, hb⟩
        have s2 := six_keep HS.out HBB.out hb
        obtain ⟨e0, e1, e2, e3, e4, e5⟩ := s2
        have HV2 := Lib.hid (TyVN.below HV.out hb)
        have HB2 := Lib.hid (HB.out.trans (hb.mono HB.out.size))
        obtain ⟨z, hz⟩ : ∃ z, z = lightT d := ⟨_, rfl⟩
        rw [← hz]
        clear hb hz HS
        cases z with
        | false =>
          go_wp2
          refine bodyPost_ret (v := .bool true) ?_ ?_ ?_
          · simp [results, Try.results5, go_sem]
          · rfl
          · exact ⟨rfl, HL.out.trans (HB2.out.mono HL.out.size)⟩
        | true =>
          go_wp2_with fail
          refine (right_any d _ w2 (TyVN.v HV2.out)).mono ?_
          rintro e w3 ⟨rfl, hb⟩
          have HB3 := Lib.hid (HB2.out.trans (hb.mono HB2.out.size))
          obtain ⟨z, hz⟩ : ∃ z, z = rightT d := ⟨_, rfl⟩
          rw [← hz]
          have HZ := Lib.hid hz
          clear hb hz e0 e1 e2 e3 e4 e5
          cases z with
          | false =>
            go_wp2
            refine bodyPost_ret (v := .bool true) ?_ ?_ ?_
            · simp [results, Try.results5, go_sem]
            · rfl
            · exact ⟨rfl, HL.out.trans (HB3.out.mono HL.out.size)⟩
          | true =>
            go_wp2
            refine ⟨⟨i + 1, hlt, by go_num, HB3, Lib.hid fun j hj => ?_⟩, by simp [intOf]; omega⟩
            by_cases e : j = i
            · rw [e, HDD.out]; exact (right_ok HZ.out.symm).hd
            · exact HD.out j (by omega)
      · have hin : i = n := by omega
        have HOK := Lib.hid (show ∀ t ∈ ts, HdT t from fun t ht => by
          obtain ⟨j, hj, rfl⟩ := List.getElem_of_mem ht
          have := HD.out j (by rw [hin, HN.out]; exact hj)
          rwa [List.getD_eq_getElem?_getD, List.getElem?_eq_getElem hj] at this)
        replace HX := Lib.hid (HX.out.keep HB.out)
        replace HTS := Lib.hid (TySN.below HTS.out HB.out)
        replace HF := Lib.hid (HF.out.below HB.out)
        replace HL := Lib.hid (HL.out.trans (HB.out.mono HL.out.size))
        clear HB HD
        have px0 := HX.out.c0
        have px1 := HX.out.c1
        go_wp2_with fail
        refine (apply_p _ ts nv l _ fa n m ec fc wr HN.out (Nat.le_trans HN8.out (by decide)) HM.out (Nat.le_trans HM30.out (by decide)) HOK.out HTS.out HF.out).mono ?_
        rintro e w3 ⟨ga, rfl, hga, hrow, hb⟩
        have HG := Lib.hid hrow
        replace HX := Lib.hid (HX.out.keep hb)
        replace HTS := Lib.hid (TySN.below HTS.out hb)
        replace HF := Lib.hid (HF.out.below hb)
        replace HL := Lib.hid (HL.out.trans (hb.mono HL.out.size))
        clear hb hga hrow px0 px1
        have px0 := HX.out.c0
        have px1 := HX.out.c1
        go_wp2_with fail
        refine (to_go _ fa fc m nv l w3 (Nat.le_trans HM30.out (by decide)) HM.out HF.out).mono ?_
        rintro e w4 ⟨⟨v, rfl, ta, tc, rfl, hf⟩, hb⟩
        have HF2 := Lib.hid hf
        replace HG := Lib.hid (HG.out.keep hb)
        replace HTS := Lib.hid (TySN.below HTS.out hb)
        replace HL := Lib.hid (HL.out.trans (hb.mono HL.out.size))
        clear hb hf px0 px1
        go_wp2_with fail
        refine (refapply_p _ ts nv l _ ta n l.length ec tc w4 HN.out (Nat.le_trans HN8.out (by decide)) rfl (by rw [← HM.out]; exact Nat.le_trans HM30.out (by decide)) HOK.out HTS.out HF2.out).mono ?_
        rintro e w5 ⟨⟨gb, gc, rfl, hrow⟩, hb⟩
        have HR := Lib.hid hrow
        replace HG := Lib.hid (HG.out.keep hb)
        replace HTS := Lib.hid (TySN.below HTS.out hb)
        replace HL := Lib.hid (HL.out.trans (hb.mono HL.out.size))
        clear hb hrow
        go_wp2
        go_loopw [12] (fun iv wx => NtB n w5 iv wx) (fun iv _ => n - (intOf iv).toNat)
        case atStart => exact ⟨0, Nat.zero_le _, rfl, Lib.hid (Below.refl _ _)⟩
        case round =>
          obtain ⟨k, hk1, rfl, HB⟩ := hrel
          by_cases hkt : k < n
          · have hk0 : (0 : Int) ≤ (k : Int) := Int.natCast_nonneg _
            have hk2 : (k : Int) < (n : Int) := by omega
            have hkl : k < ts.length := by rw [← HN.out]; exact hkt
            obtain ⟨gB, rfl, hgB, hrow⟩ : ∃ gB, gb = some ⟨gB, 0, none⟩ ∧ w4.heap.size ≤ gB ∧ RowH gB n w5 (applyT ts ⟨nv, l⟩) := by
              rcases HR.out with h | h
              · omega
              · exact h
            have HRW := Lib.hid (hrow.keep HB.out)
            have HGW := Lib.hid (HG.out.keep HB.out)
            clear hrow hgB
            obtain ⟨d, hd⟩ : ∃ d, ts.getD k ty0 = d := ⟨_, rfl⟩
            obtain ⟨b, off, p1, c1, p2, c2, rfl, hb, e0, e1, e2, e3, e4, e5, hv⟩ := TySN.elem (TySN.below HTS.out HB.out) hkl hd
            have HHD := Lib.hid (show HdT d by rw [← hd]; exact getD_hd HOK.out hkl)
            have HV := Lib.hid hv
            have HS := Lib.hid (⟨e0, e1, e2, e3, e4, e5⟩ : wr.cell? ⟨b, off + k * 6, none⟩ = some (.bool d.all) ∧ wr.cell? ⟨b, off + k * 6 + 1, none⟩ = some (.int .i64 d.flat) ∧ wr.cell? ⟨b, off + k * 6 + 2, none⟩ = some (.int .i64 d.pair) ∧ wr.cell? ⟨b, off + k * 6 + 3, none⟩ = some (.slice p1 d.pairs.length c1) ∧ wr.cell? ⟨b, off + k * 6 + 4, none⟩ = some (.int .i64 d.fn) ∧ wr.cell? ⟨b, off + k * 6 + 5, none⟩ = some (.slice p2 d.funs.length c2))
            have HBB := Lib.hid hb
            obtain ⟨xa, xf, xp, xpa, xpn, xpc, xk, xfa, xfn, xfc, x0, x1, x2, x3, x4, x5, _, hxv⟩ := HGW.out.get hkt
            obtain ⟨ya, yf, yp, ypa, ypn, ypc, yk, yfa, yfn, yfc, y0, y1, y2, y3, y4, y5, _, hyv⟩ := HRW.out.get hkt
            have X0 := SubW.cell x0 HGW.out.lt
            have X1 := SubW.cell x1 HGW.out.lt
            have X2 := SubW.cell x2 HGW.out.lt
            have X3 := SubW.cell x3 HGW.out.lt
            have X4 := SubW.cell x4 HGW.out.lt
            have X5 := SubW.cell x5 HGW.out.lt
            have Y0 := SubW.cell y0 HRW.out.lt
            have Y1 := SubW.cell y1 HRW.out.lt
            have Y2 := SubW.cell y2 HRW.out.lt
            have Y3 := SubW.cell y3 HRW.out.lt
            have Y4 := SubW.cell y4 HRW.out.lt
            have Y5 := SubW.cell y5 HRW.out.lt
            have TG := Lib.hid (fun p : SubW wr => same_any ((applyT ts ⟨nv, l⟩).getD k ty0) ((applyT ts ⟨nv, l⟩).getD k ty0) _ _ p.wx (TyVN.v (TyVN.below hxv p.h)) (TyVN.v (TyVN.below hyv p.h)))
            rw [sameT_self] at TG
            clear hd hv hb hxv hyv x0 x1 x2 x3 x4 x5 y0 y1 y2 y3 y4 y5 e0 e1 e2 e3 e4 e5
            go_upto_region 17 with fail
            refine wp_region_sub (by kernel_rfl) (by kernel_rfl) ?_
            repeat (quiet_step (first | exact rfl | (go_at_call 23; exact Calls.sub_of _ (TG.out _))))
            refine wpQuiet_nil ?_
            intro wq hw'
            obtain ⟨⟨wz', hbq⟩, hw''⟩ := hw'
            (try dsimp only at hw'')
            subst hw''
            (try dsimp only)
            have BQ := Lib.hid hbq
            clear hbq
            clear X0 X1 X2 X3 X4 X5 Y0 Y1 Y2 Y3 Y4 Y5 TG
            have HB2 := Lib.hid (HB.out.trans (BQ.out.mono HB.out.size))
            have HV2 := Lib.hid (TyVN.below HV.out BQ.out)
            have HS2 := Lib.hid (six_keep HS.out HBB.out BQ.out)
            have HBB2 := Lib.hid (Nat.lt_of_lt_of_le HBB.out BQ.out.size)
            go_upto_region 18 with fail
            have hb : Below wq.heap.size wq wq.drew := (Below.refl _ _).drew
            replace HS2 := Lib.hid (six_keep HS2.out HBB2.out hb)
            replace HV2 := Lib.hid (TyVN.below HV2.out hb)
            replace HBB2 := Lib.hid (Nat.lt_of_lt_of_le HBB2.out hb.size)
            replace HB2 := Lib.hid (HB2.out.trans (hb.mono HB2.out.size))
            clear hb
            (try dsimp only [List.append])
            refine wp_region_noPanic ?_
            refine wp_region_held_drew (S := (fun w' => w'.cell? ⟨b, off + k * 6, none⟩ = some (.bool d.all) ∧ w'.cell? ⟨b, off + k * 6 + 1, none⟩ = some (.int .i64 d.flat) ∧ w'.cell? ⟨b, off + k * 6 + 2, none⟩ = some (.int .i64 d.pair) ∧ w'.cell? ⟨b, off + k * 6 + 3, none⟩ = some (.slice p1 d.pairs.length c1) ∧ w'.cell? ⟨b, off + k * 6 + 4, none⟩ = some (.int .i64 d.fn) ∧ w'.cell? ⟨b, off + k * 6 + 5, none⟩ = some (.slice p2 d.funs.length c2))) (by kernel_rfl) (by (try dsimp only); exact HS2.out) (fun hHeld => ?_)
            generalize wq.drew = wd at hHeld HS2 HV2 HBB2 HB2 ⊢
            refine' tk_any 0 75 (v := _) ?hi44001 ?hd44001 (by kernel_rfl) (by kernel_rfl) (by kernel_rfl) (fun _ _ _ h => h) ?hy44001 hHeld ?hr44001
            case hi44001 => (simp only [List.getElem?_toArray, List.getElem?_cons_zero]; rfl)
            case hd44001 => rfl
            case hy44001 =>
              refine' Or.inl ⟨?hw44001, ?hx44001⟩
              case hw44001 => rfl
              case hx44001 => (intro w hSw; (try dsimp only at hSw); go_simp; (try with_reducible rfl))
            (try simp only [Act.put, List.setIfInBounds_toArray, List.set_cons_zero, List.set_cons_succ])
            refine' tk_any 1 76 (v := _) ?hi44002 ?hd44002 (by kernel_rfl) (by kernel_rfl) (by kernel_rfl) (fun _ _ _ h => h) ?hy44002 hHeld ?hr44002
            case hi44002 => (simp only [List.getElem?_toArray, List.getElem?_cons_succ, List.getElem?_cons_zero]; rfl)
            case hd44002 => rfl
            case hy44002 =>
              refine' Or.inl ⟨?hw44002, ?hx44002⟩
              case hw44002 => rfl
              case hx44002 => (intro w hSw; (try dsimp only at hSw); go_simp; (try with_reducible rfl))
            (try simp only [Act.put, List.setIfInBounds_toArray, List.set_cons_zero, List.set_cons_succ])
            refine' tk_any 2 77 (v := _) ?hi44003 ?hd44003 (by kernel_rfl) (by kernel_rfl) (by kernel_rfl) (fun _ _ _ h => h) ?hy44003 hHeld ?hr44003
            case hi44003 => (simp only [List.getElem?_toArray, List.getElem?_cons_succ, List.getElem?_cons_zero]; rfl)
            case hd44003 => rfl
            case hy44003 =>
              refine' Or.inl ⟨?hw44003, ?hx44003⟩
              case hw44003 => rfl
              case hx44003 => (intro w hSw; (try dsimp only at hSw); go_simp; (try with_reducible rfl))
            (try simp only [Act.put, List.setIfInBounds_toArray, List.set_cons_zero, List.set_cons_succ])
            refine' tk_any 3 78 (v := _) ?hi44004 ?hd44004 (by kernel_rfl) (by kernel_rfl) (by kernel_rfl) (fun _ _ _ h => h) ?hy44004 hHeld ?hr44004
            case hi44004 => (simp only [List.getElem?_toArray, List.getElem?_cons_succ, List.getElem?_cons_zero]; rfl)
            case hd44004 => rfl
            case hy44004 =>
              refine' Or.inl ⟨?hw44004, ?hx44004⟩
              case hw44004 => rfl
              case hx44004 => (intro w hSw; (try dsimp only at hSw); go_simp; (try with_reducible rfl))
            (try simp only [Act.put, List.setIfInBounds_toArray, List.set_cons_zero, List.set_cons_succ])
            refine' tk_any 4 79 (v := _) ?hi44005 ?hd44005 (by kernel_rfl) (by kernel_rfl) (by kernel_rfl) (fun _ _ _ h => h) ?hy44005 hHeld ?hr44005
            case hi44005 => (simp only [List.getElem?_toArray, List.getElem?_cons_succ, List.getElem?_cons_zero]; rfl)
            case hd44005 => rfl
            case hy44005 =>
              refine' Or.inl ⟨?hw44005, ?hx44005⟩
              case hw44005 => rfl
              case hx44005 => (intro w hSw; (try dsimp only at hSw); go_simp; (try with_reducible rfl))
            (try simp only [Act.put, List.setIfInBounds_toArray, List.set_cons_zero, List.set_cons_succ])
            refine' tk_any 6 81 (v := _) ?hi44006 ?hd44006 (by kernel_rfl) (by kernel_rfl) (by kernel_rfl) (fun _ _ _ h => h) ?hy44006 hHeld ?hr44006
            case hi44006 => (simp only [List.getElem?_toArray, List.getElem?_cons_succ, List.getElem?_cons_zero]; rfl)
            case hd44006 => rfl
            case hy44006 =>
              refine' Or.inl ⟨?hw44006, ?hx44006⟩
              case hw44006 => rfl
              case hx44006 => (intro w hSw; (try dsimp only at hSw); go_simp; (try with_reducible rfl))
            (try simp only [Act.put, List.setIfInBounds_toArray, List.set_cons_zero, List.set_cons_succ])
            refine' tk_any 7 82 (v := _) ?hi44007 ?hd44007 (by kernel_rfl) (by kernel_rfl) (by kernel_rfl) (fun _ _ _ h => h) ?hy44007 hHeld ?hr44007
            case hi44007 => (simp only [List.getElem?_toArray, List.getElem?_cons_succ, List.getElem?_cons_zero]; rfl)
            case hd44007 => rfl
            case hy44007 =>
              refine' Or.inl ⟨?hw44007, ?hx44007⟩
              case hw44007 => rfl
              case hx44007 => (intro w hSw; (try dsimp only at hSw); go_simp; (try with_reducible rfl))
            (try simp only [Act.put, List.setIfInBounds_toArray, List.set_cons_zero, List.set_cons_succ])
            refine' tk_any 8 83 (v := _) ?hi44008 ?hd44008 (by kernel_rfl) (by kernel_rfl) (by kernel_rfl) (fun _ _ _ h => h) ?hy44008 hHeld ?hr44008
            case hi44008 => (simp only [List.getElem?_toArray, List.getElem?_cons_succ, List.getElem?_cons_zero]; rfl)
            case hd44008 => rfl
            case hy44008 =>
              refine' Or.inl ⟨?hw44008, ?hx44008⟩
              case hw44008 => rfl
              case hx44008 => (intro w hSw; (try dsimp only at hSw); go_simp; (try with_reducible rfl))
            (try simp only [Act.put, List.setIfInBounds_toArray, List.set_cons_zero, List.set_cons_succ])
            refine' tk_any 9 84 (v := _) ?hi44009 ?hd44009 (by kernel_rfl) (by kernel_rfl) (by kernel_rfl) (fun _ _ _ h => h) ?hy44009 hHeld ?hr44009
            case hi44009 => (simp only [List.getElem?_toArray, List.getElem?_cons_succ, List.getElem?_cons_zero]; rfl)
            case hd44009 => rfl
            case hy44009 =>
              refine' Or.inl ⟨?hw44009, ?hx44009⟩
              case hw44009 => rfl
              case hx44009 => (intro w hSw; (try dsimp only at hSw); go_simp; (try with_reducible rfl))
            (try simp only [Act.put, List.setIfInBounds_toArray, List.set_cons_zero, List.set_cons_succ])
            refine' tk_any 10 85 (v := _) ?hi44010 ?hd44010 (by kernel_rfl) (by kernel_rfl) (by kernel_rfl) (fun _ _ _ h => h) ?hy44010 hHeld ?hr44010
            case hi44010 => (simp only [List.getElem?_toArray, List.getElem?_cons_succ, List.getElem?_cons_zero]; rfl)
            case hd44010 => rfl
            case hy44010 =>
              refine' Or.inl ⟨?hw44010, ?hx44010⟩
              case hw44010 => rfl
              case hx44010 => (intro w hSw; (try dsimp only at hSw); go_simp; (try with_reducible rfl))
            (try simp only [Act.put, List.setIfInBounds_toArray, List.set_cons_zero, List.set_cons_succ])
            refine' tk_call 5 ?hi44011 (by kernel_rfl) ?hr44011
            case hi44011 => (simp only [List.getElem?_toArray, List.getElem?_cons_succ, List.getElem?_cons_zero]; rfl)
            intro K hK
            go_simp
            go_at_call 24
            refine (keep_p N0 d g _ wd n0 HHD.out HV2.out).mono ?_
            rintro e w6 ⟨⟨v, rfl, hv2⟩, hb⟩
            have HK := Lib.hid hv2
            replace HS2 := Lib.hid (six_keep HS2.out HBB2.out hb)
            replace HV2 := Lib.hid (TyVN.below HV2.out hb)
            replace HBB2 := Lib.hid (Nat.lt_of_lt_of_le HBB2.out hb.size)
            replace HB2 := Lib.hid (HB2.out.trans (hb.mono HB2.out.size))
            obtain ⟨a2, f2, q2, pa2, np2, pc2, k2, ga2, nf2, gc2, rfl⟩ := TyVN.shape HK.out
            clear hb hv2
            go_wp2_with fail
            clear hHeld
            refine hK.out _ _ (by (try dsimp only); exact HS2.out) (fun hHeld => ?_)
            clear hK K
            (try simp only [Act.put, List.setIfInBounds_toArray, List.set_cons_zero, List.set_cons_succ])
            refine' tk_call 11 ?hi44012 (by kernel_rfl) ?hr44012
            case hi44012 => (simp only [List.getElem?_toArray, List.getElem?_cons_succ, List.getElem?_cons_zero]; rfl)
            intro K hK
            go_simp
            go_at_call 25
            refine (refkeep_p N0 d g _ w6 n0 HHD.out HV2.out).mono ?_
            rintro e w7 ⟨⟨v, rfl, hv2⟩, hb⟩
            have HK2 := Lib.hid hv2
            replace HK := Lib.hid (TyVN.below HK.out hb)
            replace HS2 := Lib.hid (six_keep HS2.out HBB2.out hb)
            replace HV2 := Lib.hid (TyVN.below HV2.out hb)
            replace HBB2 := Lib.hid (Nat.lt_of_lt_of_le HBB2.out hb.size)
            replace HB2 := Lib.hid (HB2.out.trans (hb.mono HB2.out.size))
            obtain ⟨a3, f3, q3, pa3, np3, pc3, k3, ga3, nf3, gc3, rfl⟩ := TyVN.shape HK2.out
            clear hb hv2
            go_wp2_with fail
            clear hHeld
            refine hK.out _ _ (by (try dsimp only); exact HS2.out) (fun hHeld => ?_)
            clear hK K
            (try simp only [Act.put, List.setIfInBounds_toArray, List.set_cons_zero, List.set_cons_succ])
            refine' tk_call 12 ?hi44013 (by kernel_rfl) ?hr44013
            case hi44013 => (simp only [List.getElem?_toArray, List.getElem?_cons_succ, List.getElem?_cons_zero]; rfl)
            intro K hK
            go_simp
            go_at_call 23
            refine (same_any (keepT d (lowN g)) (keepT d (lowN g)) _ _ w7 (TyVN.v HK.out) (TyVN.v HK2.out)).mono ?_
            rintro e w8 ⟨rfl, hb⟩
            rw [sameT_self]
            replace HS2 := Lib.hid (six_keep HS2.out HBB2.out hb)
            replace HV2 := Lib.hid (TyVN.below HV2.out hb)
            replace HBB2 := Lib.hid (Nat.lt_of_lt_of_le HBB2.out hb.size)
            replace HB2 := Lib.hid (HB2.out.trans (hb.mono HB2.out.size))
            clear hb
            go_wp2_with fail
            clear hHeld
            refine hK.out _ _ (by (try dsimp only); exact HS2.out) (fun hHeld => ?_)
            clear hK K
            (try simp only [Act.put, List.setIfInBounds_toArray, List.set_cons_zero, List.set_cons_succ])
            refine' tk_any 13 14 (v := _) ?hi44014 ?hd44014 (by kernel_rfl) (by kernel_rfl) (by kernel_rfl) (fun _ _ _ h => h) ?hy44014 hHeld ?hr44014
            case hi44014 => (simp only [List.getElem?_toArray, List.getElem?_cons_succ, List.getElem?_cons_zero]; rfl)
            case hd44014 => rfl
            case hy44014 =>
              refine' Or.inl ⟨?hw44014, ?hx44014⟩
              case hw44014 => rfl
              case hx44014 => (intro w hSw; (try dsimp only at hSw); go_simp; (try with_reducible rfl))
            (try simp only [Act.put, List.setIfInBounds_toArray, List.set_cons_zero, List.set_cons_succ])
            refine wpAnyH_done (by kernel_rfl) ?_ _
            refine NoPanic.normal ?_
            have X0 := SubW.cell HS2.out.1 HBB2.out
            have X1 := SubW.cell HS2.out.2.1 HBB2.out
            have X2 := SubW.cell HS2.out.2.2.1 HBB2.out
            have X3 := SubW.cell HS2.out.2.2.2.1 HBB2.out
            have X4 := SubW.cell HS2.out.2.2.2.2.1 HBB2.out
            have X5 := SubW.cell HS2.out.2.2.2.2.2 HBB2.out
            have TG1 := Lib.hid (fun p : SubW w8 => tags_p d _ _ p.wx HHD.out (TyVN.below HV2.out p.h))
            have TG2 := Lib.hid (fun p : SubW w8 => reftags_p d _ _ p.wx HHD.out (TyVN.below HV2.out p.h))
            go_upto_region 19 with fail
            refine wp_region_sub (by kernel_rfl) (by kernel_rfl) ?_
            repeat (quiet_step (first | exact rfl | (go_at_call 26; exact Calls.sub_of _ (TG1.out _)) | (go_at_call 27; exact Calls.sub_of _ (TG2.out _))))
            refine wpQuiet_nil ?_
            intro wq hw'
            obtain ⟨⟨wz', hbq⟩, hw''⟩ := hw'
            (try dsimp only at hw'')
            subst hw''
            (try dsimp only)
            have BQ2 := Lib.hid hbq
            clear hbq
            have HB9 := Lib.hid (HB2.out.trans (BQ2.out.mono HB2.out.size))
            clear X0 X1 X2 X3 X4 X5 TG1 TG2
            go_wp2
            exact ⟨⟨k + 1, hkt, by go_num, HB9⟩, by simp [intOf]; omega⟩
          · have HBZ := Lib.hid (HL.out.trans (HB.out.mono HL.out.size))
            go_wp2
            refine bodyPost_ret (v := .bool true) ?_ ?_ ?_
            · simp [results, Try.results5, go_sem]
            · rfl
            · exact ⟨rfl, HBZ.out⟩
  · go_wp2
    all_goals
      refine bodyPost_ret (v := .bool true) ?_ ?_ ?_
      · simp [results, Try.results5, go_sem]
      · rfl
      · exact ⟨rfl, HL.out⟩
end Go.Proofs.Ytgjkobkcmgliaaa
