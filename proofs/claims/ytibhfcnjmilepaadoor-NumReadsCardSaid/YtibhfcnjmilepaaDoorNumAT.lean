import Derived.Test.YtibhfcnjmilepaaDoorNumAU
import Derived.Deep.CutRange
namespace Go.Proofs.YtibhfcnjmilepaaDoor
open Go.RowKit

def s007 : ByteArray := ⟨#[45, 48, 48, 55]⟩
theorem read007 : readZ s007.data.toList = some (-7) := by kernel_rfl
/-- a variable of the law's own, and its number -/
def ErrRel (K : Nat) (o : Option Int) (k : Int) (W : World) (p q : Value) (w' : World) : Prop :=
  ∃ g b s l c, p = .pointer (some ⟨g, 0, none⟩) ∧ q = .int .i64 (errZ o k) ∧ W.heap.size ≤ g ∧ Hid (VarAt w' g b s l c) ∧ Hid (NumIs K w' (.agg #[.bool b, .slice s l c]) (o.getD 0)) ∧ Hid (Below W.heap.size W w')
theorem err_early {K : Nat} {o : Option Int} {k : Int} {W V w5 w6 : World} {b : Bool} {s : Option Addr} {l c : Nat} (hV : V = W.drew.alloc (.cells #[.bool false, .slice none 0 0] 25)) (h5 : Below V.heap.size V w5) (h6 : Below w5.heap.size w5 w6) (hn : NumIs K w6 (.agg #[.bool b, .slice s l c]) (o.getD 0)) :
    ErrRel K o k W (.pointer (some ⟨W.heap.size, 0, none⟩)) (.int .i64 (errZ o k)) ((w6.setCell ⟨W.heap.size, 0, none⟩ (.bool b)).setCell ⟨W.heap.size, 1, none⟩ (.slice s l c)) := by
  have hz : V.heap.size = W.heap.size + 1 := by rw [hV]; simp
  have hb : Below W.heap.size W V := by rw [hV]; exact (Below.refl _ _).drew.alloc (by simp) _
  have hv : VarAt V W.heap.size false none 0 0 := by rw [hV]; exact VarAt.made _ _ _ _ _
  have h5s := h5.size
  have hv6 := (hv.below h5 (by omega)).below h6 (by omega)
  exact ⟨_, b, s, l, c, rfl, rfl, Nat.le_refl _, hv6.set, hn.set hv6, (((hb.trans (h5.mono (by omega))).trans (h6.mono (by omega))).setCell (p := ⟨W.heap.size, 0, none⟩) (Nat.le_refl _) _).setCell (p := ⟨W.heap.size, 1, none⟩) (Nat.le_refl _) _⟩
theorem err_mid {K : Nat} {o : Option Int} {k : Int} {W w5 w6 : World} {b : Bool} {s : Option Addr} {l c : Nat} (h5 : Below W.heap.size W w5) (h6 : Below (w5.alloc (.cells #[.bool false, .slice none 0 0] 25)).heap.size (w5.alloc (.cells #[.bool false, .slice none 0 0] 25)) w6) (hn : NumIs K w6 (.agg #[.bool b, .slice s l c]) (o.getD 0)) :
    ErrRel K o k W (.pointer (some ⟨w5.heap.size, 0, none⟩)) (.int .i64 (errZ o k)) ((w6.setCell ⟨w5.heap.size, 0, none⟩ (.bool b)).setCell ⟨w5.heap.size, 1, none⟩ (.slice s l c)) := by
  have h5s := h5.size
  have hv6 := (VarAt.made w5 false none 0 0).below h6 (by simp)
  exact ⟨_, b, s, l, c, rfl, rfl, h5s, hv6.set, hn.set hv6, ((h5.trans (((Below.refl _ _).alloc h5s _).trans (h6.mono (by simp; omega)))).setCell (p := ⟨w5.heap.size, 0, none⟩) h5s _).setCell (p := ⟨w5.heap.size, 1, none⟩) h5s _⟩
theorem err_late {K : Nat} {o : Option Int} {k : Int} {W w6 : World} {b : Bool} {s : Option Addr} {l c : Nat} (h6 : Below W.heap.size W w6) (hn : NumIs K w6 (.agg #[.bool b, .slice s l c]) (o.getD 0)) :
    ErrRel K o k W (.pointer (some ⟨w6.heap.size, 0, none⟩)) (.int .i64 (errZ o k)) (w6.alloc (.cells #[.bool b, .slice s l c] 25)) :=
  ⟨_, b, s, l, c, rfl, rfl, h6.size, VarAt.made _ _ _ _ _, hn.alloc _, h6.alloc h6.size _⟩


theorem ntextS {K : Nat} {w : World} {a : Value} {x : Int} (S : ByteArray) (hS : (⟨(textZ x).toArray⟩ : ByteArray) = S) (ha : NumIs K w a x) (hK : K ≤ 10000) (ht : TabW w) : Calls Tryd.prog 11 #[a] w fun e w' => e = .returned (.string S) ∧ Below w.heap.size w w' := by
  subst hS; exact ntext ha hK ht
theorem text_m3 : (⟨(textZ (-3)).toArray⟩ : ByteArray) = ⟨#[45, 51]⟩ := by
  show (⟨(45 :: decN 3).toArray⟩ : ByteArray) = _
  rw [decN_small (by omega)]; rfl
theorem text_m1 : (⟨(textZ (-1)).toArray⟩ : ByteArray) = ⟨#[45, 49]⟩ := by
  show (⟨(45 :: decN 1).toArray⟩ : ByteArray) = _
  rw [decN_small (by omega)]; rfl
theorem text_0 : (⟨(textZ 0).toArray⟩ : ByteArray) = ⟨#[48]⟩ := by
  show (⟨(decN 0).toArray⟩ : ByteArray) = _
  rw [decN_small (by omega)]; rfl
theorem text_m35 : (⟨(textZ (5 * -7)).toArray⟩ : ByteArray) = ⟨#[45, 51, 53]⟩ := by
  show (⟨(45 :: decN 35).toArray⟩ : ByteArray) = _
  rw [decN_big (by omega), decN_small (by omega)]; rfl
theorem zero_num (w : World) : NumIs 0 w (.agg #[.bool false, .slice none 0 0]) 0 := ⟨zero_is w, by show (digB 0).length ≤ 0; rw [digB_zero]; exact Nat.le_refl _⟩
theorem quo72 : quoZ (-7) 2 = some (-3) := by decide
theorem rem72 : remZ (-7) 2 = some (-1) := by decide

set_option maxRecDepth 100000 in
set_option maxHeartbeats 8000000 in
theorem awake_any (w : World) (ht : TabW w) :
    Calls Tryd.prog 8 #[] w fun e w' => e = .returned (.bool true) ∧ Below w.heap.size w w' := by
  have R1 := nread s007 (by decide) w
  rw [read007] at R1
  have HR1 := Lib.hid R1
  have HT := Lib.hid ht
  clear R1 ht
  go_enter Tryd.func8, Tryd.ntmps8
  go_wp2_with fail
  refine HR1.out.mono ?_
  rintro e w1 ⟨⟨b1, s1, l1, c1, rfl, hn1⟩, hb1⟩
  have HB1 := Lib.hid hb1
  obtain ⟨W, hW⟩ : ∃ W, W = w1.alloc (.cells #[.bool b1, .slice s1 l1 c1] 25) := ⟨_, rfl⟩
  obtain ⟨ga, hga⟩ : ∃ ga, ga = w1.heap.size := ⟨_, rfl⟩
  have hva : VarAt W ga b1 s1 l1 c1 := by rw [hW, hga]; exact VarAt.made _ _ _ _ _
  have hna : NumIs 1 W (.agg #[.bool b1, .slice s1 l1 c1]) (-7) := by rw [hW]; exact hn1.alloc _
  have cc0 := hva.c0
  have cc1 := hva.c1
  have hlt := hva.lt
  have HVA := Lib.hid hva
  have HNA := Lib.hid hna
  have HBW := Lib.hid (show Below w.heap.size w W by rw [hW]; exact hb1.alloc hb1.size _)
  have HW := Lib.hid hW
  have HG := Lib.hid hga
  clear hn1 hb1 hva hna hW hga
  go_wp2_with fail
  rw [← HW.out, ← HG.out]
  go_cut [3, 4] from 15 to 20 (fun p q w' => ErrRel 1 (quoZ (-7) 2) 8 W p q w')
  case first =>
    go_region_with (first
      | ((go_at_call 17; refine (nof 2 (by omega) (by omega) _).mono ?_; rintro e w5 ⟨⟨b5, s5, l5, c5, rfl, hn5⟩, hb5⟩
          have hbc : Below W.heap.size W w5 := (show Below W.heap.size W _ by first | exact (Below.refl _ _).drew | exact (Below.refl _ _).drew.alloc (by simp) _).trans (hb5.mono (by simp))
          have e0 := hbc.cell (p := ⟨ga, 0, none⟩) hlt
          have e1 := hbc.cell (p := ⟨ga, 1, none⟩) hlt
          rw [cc0] at e0
          rw [cc1] at e1
          have hlt5 : ga < w5.heap.size := Nat.lt_of_lt_of_le hlt hbc.size
          (try have v5 : VarAt w5 W.heap.size false none 0 0 := (VarAt.made W.drew false none 0 0).below hb5 (by simp))))
      | ((go_at_call 21; refine (nquo (K := 1) (L := 3) (x := -7) (y := 2) (by first | exact HNA.out.below hbc | exact (HNA.out.below hbc).alloc _) (by first | exact hn5 | exact hn5.alloc _) (by omega) (by omega)).mono ?_; rintro e w6 ⟨⟨b6, s6, l6, c6, rfl, hn6⟩, hb6⟩
          (try have v6 := v5.below hb6 v5.lt)
          (try have v6 := (VarAt.made w5 false none 0 0).below hb6 (by simp))
          (try have z0 := v6.c0)
          (try have z1 := v6.c1)
          (try have z2 := v6.f0 0)
          (try have z3 := v6.f0 1))))
    all_goals
      go_wp2
      go_meet
      case rel => first | exact err_early rfl hb5 hb6 hn6 | exact err_mid hbc hb6 hn6 | exact err_late (hbc.trans (hb6.mono hbc.size)) hn6
  case rest =>
    obtain ⟨gq, bq, sq, lq, cq, rfl, rfl, hgq, HVQ, HNQ, HBQ⟩ := hcut
    obtain ⟨W2, hW2⟩ : ∃ W2, W2 = wc := ⟨_, rfl⟩
    rw [← hW2] at HVQ HNQ HBQ ⊢
    clear hW2
    rw [quo72] at HNQ
    rw [show errZ (quoZ (-7) 2) 8 = 0 by rw [quo72]; rfl]
    have HVA2 := Lib.hid (HVA.out.below HBQ.out hlt)
    have HNA2 := Lib.hid (HNA.out.below HBQ.out)
    have dd0 := HVA2.out.c0
    have dd1 := HVA2.out.c1
    have hlt2 := HVA2.out.lt
    clear cc0 cc1
    go_wp2_with fail
    go_cut [5, 6] from 21 to 26 (fun p q w' => ErrRel 1 (remZ (-7) 2) 8 W2 p q w')
    case first =>
      go_region_with (first
        | ((go_at_call 17; refine (nof 2 (by omega) (by omega) _).mono ?_; rintro e w5 ⟨⟨b5, s5, l5, c5, rfl, hn5⟩, hb5⟩
            have hbc : Below W2.heap.size W2 w5 := (show Below W2.heap.size W2 _ by first | exact (Below.refl _ _).drew | exact (Below.refl _ _).drew.alloc (by simp) _).trans (hb5.mono (by simp))
            have e0 := hbc.cell (p := ⟨ga, 0, none⟩) hlt2
            have e1 := hbc.cell (p := ⟨ga, 1, none⟩) hlt2
            rw [dd0] at e0
            rw [dd1] at e1
            have hlt5 : ga < w5.heap.size := Nat.lt_of_lt_of_le hlt2 hbc.size
            (try have v5 : VarAt w5 W2.heap.size false none 0 0 := (VarAt.made W2.drew false none 0 0).below hb5 (by simp))))
        | ((go_at_call 22; refine (nrem (K := 1) (L := 3) (x := -7) (y := 2) (by first | exact HNA2.out.below hbc | exact (HNA2.out.below hbc).alloc _) (by first | exact hn5 | exact hn5.alloc _) (by omega) (by omega)).mono ?_; rintro e w6 ⟨⟨b6, s6, l6, c6, rfl, hn6⟩, hb6⟩
            (try have v6 := v5.below hb6 v5.lt)
            (try have v6 := (VarAt.made w5 false none 0 0).below hb6 (by simp))
            (try have z0 := v6.c0)
            (try have z1 := v6.c1)
            (try have z2 := v6.f0 0)
            (try have z3 := v6.f0 1))))
      all_goals
        go_wp2
        go_meet
        case rel => first | exact err_early rfl hb5 hb6 hn6 | exact err_mid hbc hb6 hn6 | exact err_late (hbc.trans (hb6.mono hbc.size)) hn6
    case rest =>
      obtain ⟨gr, br, sr, lr, cr, rfl, rfl, hgr, HVR, HNR, HBR⟩ := hcut
      obtain ⟨W3, hW3⟩ : ∃ W3, W3 = wc := ⟨_, rfl⟩
      rw [← hW3] at HVR HNR HBR ⊢
      clear hW3
      rw [rem72] at HNR
      rw [show errZ (remZ (-7) 2) 8 = 0 by rw [rem72]; rfl]
      have HVA3 := Lib.hid (HVA2.out.below HBR.out hlt2)
      have HNA3 := Lib.hid (HNA2.out.below HBR.out)
      have HVQ3 := Lib.hid (HVQ.out.below HBR.out HVQ.out.lt)
      have HNQ3 := Lib.hid (HNQ.out.below HBR.out)
      have k0 := HVA3.out.c0
      have k1 := HVA3.out.c1
      have HB3 := Lib.hid ((HBW.out.trans (HBQ.out.mono HBW.out.size)).trans (HBR.out.mono ((HBW.out.trans (HBQ.out.mono HBW.out.size))).size))
      clear dd0 dd1
      have D0 := nquo (K := 1) (L := 0) HNA3.out (zero_num W3) (by omega) (by omega)
      rw [show quoZ (-7) 0 = none from rfl] at D0
      have HD0 := Lib.hid D0
      clear D0
      go_wp2_with fail
      refine HD0.out.mono ?_
      rintro e w4 ⟨⟨b4, s4, l4, c4, rfl, hn4⟩, hb4⟩
      rw [show errZ none 8 = 8 from rfl]
      obtain ⟨W4, hW4⟩ : ∃ W4, W4 = w4.alloc (.cells #[.bool b4, .slice s4 l4 c4] 25) := ⟨_, rfl⟩
      have hb34 : Below W3.heap.size W3 W4 := by rw [hW4]; exact hb4.alloc hb4.size _
      have hlt3 := HVA3.out.lt
      have ltq3 := HVQ3.out.lt
      have ltr3 := HVR.out.lt
      have HVA4 := Lib.hid (HVA3.out.below hb34 hlt3)
      have HNA4 := Lib.hid (HNA3.out.below hb34)
      have j0 := HVA4.out.c0
      have j1 := HVA4.out.c1
      have HVA4w := Lib.hid (HVA3.out.below hb4 hlt3)
      have i0 := HVA4w.out.c0
      have i1 := HVA4w.out.c1
      have hlt4 := HVA4w.out.lt
      have HB34 := Lib.hid hb34
      have HW4 := Lib.hid hW4
      have SM := pSmall_any (-7) (Nat.le_trans HNA4.out.2 (by omega)) _ W4 HNA4.out.1
      unfold SmallPost at SM
      rw [smallV_yes (show smallB (-7) = true by decide)] at SM
      have HSM := Lib.hid SM
      clear SM hb34 hb4 hn4 k0 k1 hW4
      go_wp2_with fail
      rw [← HW4.out]
      refine HSM.out.mono ?_
      rintro e w5 ⟨rfl, hb5⟩
      have hb35 := HB34.out.trans (hb5.mono HB34.out.size)
      have HVA5 := Lib.hid (HVA3.out.below hb35 hlt3)
      have HNA5 := Lib.hid (HNA3.out.below hb35)
      have HVQ5 := Lib.hid (HVQ3.out.below hb35 ltq3)
      have HNQ5 := Lib.hid (HNQ3.out.below hb35)
      have HVR5 := Lib.hid (HVR.out.below hb35 ltr3)
      have HNR5 := Lib.hid (HNR.out.below hb35)
      have HB5 := Lib.hid (HB3.out.trans (hb35.mono HB3.out.size))
      have HT5 := Lib.hid (HT.out.below HB5.out)
      have A0 := HVA5.out.c0
      have A1 := HVA5.out.c1
      have Q0 := HVQ5.out.c0
      have Q1 := HVQ5.out.c1
      have R0 := HVR5.out.c0
      have R1 := HVR5.out.c1
      have lta := HVA5.out.lt
      have ltq := HVQ5.out.lt
      have ltr := HVR5.out.lt
      clear hb5 hb35 j0 j1
      have hbc : Below w5.heap.size w5 w5.drew := (Below.refl _ _).drew
      go_wp2_with fail
      go_region_held3 (fun w' => w'.cell? ⟨ga, 0, none⟩ = some (.bool b1) ∧ w'.cell? ⟨ga, 1, none⟩ = some (.slice s1 l1 c1) ∧ w'.cell? ⟨gq, 0, none⟩ = some (.bool bq) ∧ w'.cell? ⟨gq, 1, none⟩ = some (.slice sq lq cq) ∧ w'.cell? ⟨gr, 0, none⟩ = some (.bool br) ∧ w'.cell? ⟨gr, 1, none⟩ = some (.slice sr lr cr))
        (exact ⟨(hbc.cell (p := ⟨ga, 0, none⟩) lta).trans A0, (hbc.cell (p := ⟨ga, 1, none⟩) lta).trans A1, (hbc.cell (p := ⟨gq, 0, none⟩) ltq).trans Q0, (hbc.cell (p := ⟨gq, 1, none⟩) ltq).trans Q1, (hbc.cell (p := ⟨gr, 0, none⟩) ltr).trans R0, (hbc.cell (p := ⟨gr, 1, none⟩) ltr).trans R1⟩)
        (first
          | ((go_at_call 11; with_reducible refine (ntextS (K := 1) (x := -3) _ text_m3 (HNQ5.out.below hbc) (by omega) (HT5.out.below hbc)).mono ?_; rintro e w9 ⟨rfl, hb9⟩
              replace hbc := hbc.trans (hb9.mono hbc.size)))
          | ((go_at_call 11; with_reducible refine (ntextS (K := 1) (x := -1) _ text_m1 (HNR5.out.below hbc) (by omega) (HT5.out.below hbc)).mono ?_; rintro e w9 ⟨rfl, hb9⟩
              replace hbc := hbc.trans (hb9.mono hbc.size)))
          | ((go_at_call 11; with_reducible refine (ntextS (K := 0) (x := 0) _ text_0 (zero_num _) (by omega) (HT5.out.below hbc)).mono ?_; rintro e w9 ⟨rfl, hb9⟩
              replace hbc := hbc.trans (hb9.mono hbc.size)))
          | ((go_at_call 11; refine (ntextS (K := 4) (x := 5 * -7) _ text_m35 hnm (by omega) (HT5.out.below hbc)).mono ?_; rintro e w9 ⟨rfl, hb9⟩
              replace hbc := hbc.trans (hb9.mono hbc.size)))
          | ((go_at_call 29; refine (nmul (K := 3) (L := 1) hno (HNA5.out.below hbc) (by omega) (by omega)).mono ?_; rintro e w9 ⟨⟨bm, sm, lm, cm, rfl, hnm⟩, hb9⟩
              replace hbc := hbc.trans (hb9.mono hbc.size)))
          | ((go_at_call 31; refine (ncmp_eq (K := 1) (L := 3) (x := -7) (y := -7) (HNA5.out.below hbc) hno (by omega) (by omega) rfl).mono ?_; rintro e w9 ⟨rfl, hb9⟩
              replace hbc := hbc.trans (hb9.mono hbc.size)))
          | ((go_at_call 17; refine (nof _ (by omega) (by omega) _).mono ?_; rintro e w9 ⟨⟨bo, so, lo, co, rfl, hno⟩, hb9⟩
              replace hbc := hbc.trans (hb9.mono hbc.size))))
      go_wp2
      go_ret
      exact ⟨rfl, HB5.out.trans (hbc.mono HB5.out.size)⟩
end Go.Proofs.YtibhfcnjmilepaaDoor
