import Derived.Test.YtdjhjapfmbcmlaaDoorTyLw
namespace Go.Proofs.YtdjhjapfmbcmlaaDoor
open Go.RowKit

set_option maxRecDepth 100000 in
set_option maxHeartbeats 32000000 in
/-- a type is read as it was told -/
theorem back_law (xy : Ty) (vx : Value) (w : World) (hFN : FN w) (rx : RngT xy) (hx : TyVN N0 w vx xy) :
    Calls Tryd.prog 7 #[vx] w fun e w' => e = .returned (.bool true) ∧ Below w.heap.size w w' := by
  obtain ⟨xa, xf, xp, xpa, xnp, xpc, xk, xfa, xnf, xfc, rfl⟩ := (hx : TyVN N0 w vx xy).shape
  have HXx := Lib.hid hx
  have HFN := Lib.hid hFN
  have HB := Lib.hid (Below.refl w.heap.size w)
  clear hFN hx
  have hl := light_sz (t := xy)
  have HRX := Lib.hid rx
  have HL := Lib.hid hl
  clear hl
  obtain ⟨W1, hW1⟩ : ∃ W, W = w.alloc (.cells #[.bool xa, .int .i64 xf, .int .i64 xp, (.slice xpa xnp xpc), .int .i64 xk, (.slice xfa xnf xfc)] 24) := ⟨_, rfl⟩
  have hb : Below w.heap.size w W1 := by rw [hW1]; exact (Below.refl _ _).alloc (Nat.le_refl _) _
  have HHW1 := Lib.hid hW1
  clear hW1
  have HBx := Lib.hid (show BoxAt W1 w.heap.size xa xf xp (.slice xpa xnp xpc) xk (.slice xfa xnf xfc) by rw [HHW1.out]; exact BoxAt.made _ _ _ _ _ _ _)
  have HSW1 := Lib.hid (show W1.heap.size = w.heap.size + 1 by rw [HHW1.out, alloc_hs])
  have HVx := Lib.hid (HXx.out.below hb)
  clear HXx
  replace HFN := Lib.hid (HFN.out.below hb)
  replace HB := Lib.hid (HB.out.trans (hb.mono HB.out.size))
  clear hb
  clear rx
  go_enter Tryd.func7, Tryd.ntmps7
  go_wp2_with fail
  rw [← HHW1.out]
  refine (awake_p W1 HFN.out).mono ?_
  rintro e w2 ⟨rfl, hb⟩
  replace HBx := Lib.hid (HBx.out.keep hb)
  replace HVx := Lib.hid (HVx.out.below hb)
  replace HFN := Lib.hid (HFN.out.below hb)
  replace HB := Lib.hid (HB.out.trans (hb.mono HB.out.size))
  clear hb
  have x0 := HBx.out.c0
  have x1 := HBx.out.c1
  have x2 := HBx.out.c2
  have x3 := HBx.out.c3
  have x4 := HBx.out.c4
  have x5 := HBx.out.c5
  go_wp2_with fail
  refine (light_any xy _ w2 HVx.out.v).mono ?_
  rintro e w3 ⟨rfl, hb⟩
  replace HBx := Lib.hid (HBx.out.keep hb)
  replace HVx := Lib.hid (HVx.out.below hb)
  replace HFN := Lib.hid (HFN.out.below hb)
  replace HB := Lib.hid (HB.out.trans (hb.mono HB.out.size))
  clear hb
  clear x0 x1 x2 x3 x4 x5
  obtain ⟨lx, hlx⟩ : ∃ b, b = lightT xy := ⟨_, rfl⟩
  rw [← hlx]
  have HLX := Lib.hid hlx
  clear hlx
  cases lx with
  | false =>
    go_wp2
    go_ret
    exact ⟨rfl, HB.out⟩
  | true =>
    have hsz := HL.out HLX.out.symm
    have HSZ := Lib.hid hsz
    clear hsz
    obtain ⟨z, hz⟩ : ∃ b, b = deepF 20 xy := ⟨_, rfl⟩
    have hd := datum_p N0 xy (.agg #[.bool xa, .int .i64 xf, .int .i64 xp, (.slice xpa xnp xpc), .int .i64 xk, (.slice xfa xnf xfc)]) w3 (by have := HSZ.out; omega) HRX.out n0 HFN.out HVx.out
    have hr : ∀ w, TyVN N0 w (.agg #[.bool xa, .int .i64 xf, .int .i64 xp, (.slice xpa xnp xpc), .int .i64 xk, (.slice xfa xnf xfc)]) xy → Calls Tryd.prog 10 #[(.agg #[.bool xa, .int .i64 xf, .int .i64 xp, (.slice xpa xnp xpc), .int .i64 xk, (.slice xfa xnf xfc)])] w fun e w' => e = .returned (.bool (deepF 20 xy)) ∧ Below w.heap.size w w' := fun w h => right_p xy _ w (by have := HSZ.out; omega) HRX.out h.v
    rw [← hz] at hd hr
    have HZ := Lib.hid hz
    have HRR := Lib.hid hr
    have HD := Lib.hid hd
    clear hz hd hr
    cases z with
    | false =>
      have hd := HD.out
      rw [if_neg (by decide), if_neg (by decide)] at hd
      replace HD := Lib.hid hd
      clear hd
      have x0 := HBx.out.c0
      have x1 := HBx.out.c1
      have x2 := HBx.out.c2
      have x3 := HBx.out.c3
      have x4 := HBx.out.c4
      have x5 := HBx.out.c5
      go_wp2_with fail
      refine (HD.out).mono ?_
      rintro e w4 ⟨⟨v, rfl, hv⟩, hb⟩
      obtain ⟨da, dn, dc, rfl⟩ := hv.shape
      obtain ⟨dk, hdk⟩ : ∃ k, k = dat0.kind := ⟨_, rfl⟩
      obtain ⟨dt, hdt⟩ : ∃ k, k = dat0.text := ⟨_, rfl⟩
      rw [← hdk, ← hdt] at hv ⊢
      have HVV := Lib.hid hv
      clear hv hdk hdt
      replace HBx := Lib.hid (HBx.out.keep hb)
      replace HVx := Lib.hid (HVx.out.below hb)
      replace HFN := Lib.hid (HFN.out.below hb)
      replace HB := Lib.hid (HB.out.trans (hb.mono HB.out.size))
      clear hb
      obtain ⟨W5, hW5⟩ : ∃ W, W = w4.alloc (.cells #[.int .i64 dk, .string dt, (.slice da dn dc)] 39) := ⟨_, rfl⟩
      have hb : Below w4.heap.size w4 W5 := by rw [hW5]; exact (Below.refl _ _).alloc (Nat.le_refl _) _
      have HHW5 := Lib.hid hW5
      clear hW5
      replace HBx := Lib.hid (HBx.out.keep hb)
      replace HVx := Lib.hid (HVx.out.below hb)
      have HBd := Lib.hid (show DBox W5 w4.heap.size dk dt (.slice da dn dc) by rw [HHW5.out]; exact DBox.made _ _ _ _)
      have HSW5 := Lib.hid (show W5.heap.size = w4.heap.size + 1 by rw [HHW5.out, alloc_hs])
      have HVd := Lib.hid (HVV.out.below hb)
      clear HVV
      replace HFN := Lib.hid (HFN.out.below hb)
      replace HB := Lib.hid (HB.out.trans (hb.mono HB.out.size))
      clear hb
      clear x0 x1 x2 x3 x4 x5
      have x0 := HBx.out.c0
      have x1 := HBx.out.c1
      have x2 := HBx.out.c2
      have x3 := HBx.out.c3
      have x4 := HBx.out.c4
      have x5 := HBx.out.c5
      rw [HHW5.out] at x0 x1 x2 x3 x4 x5
      go_wp2_with fail
      rw [← HHW5.out]
      refine (HRR.out W5 HVx.out).mono ?_
      rintro e w6 ⟨rfl, hb⟩
      replace HBx := Lib.hid (HBx.out.keep hb)
      replace HVx := Lib.hid (HVx.out.below hb)
      replace HBd := Lib.hid (HBd.out.keep hb)
      replace HVd := Lib.hid (HVd.out.below hb)
      replace HFN := Lib.hid (HFN.out.below hb)
      replace HB := Lib.hid (HB.out.trans (hb.mono HB.out.size))
      clear hb
      clear x0 x1 x2 x3 x4 x5
      go_wp2
      go_ret
      exact ⟨rfl, HB.out⟩
    | true =>
      have hd := HD.out
      rw [if_pos rfl, if_pos rfl] at hd
      replace HD := Lib.hid hd
      clear hd
      have x0 := HBx.out.c0
      have x1 := HBx.out.c1
      have x2 := HBx.out.c2
      have x3 := HBx.out.c3
      have x4 := HBx.out.c4
      have x5 := HBx.out.c5
      go_wp2_with fail
      refine (HD.out).mono ?_
      rintro e w4 ⟨⟨v, rfl, hv⟩, hb⟩
      obtain ⟨da, dn, dc, rfl⟩ := hv.shape
      obtain ⟨dk, hdk⟩ : ∃ k, k = (toldT xy).kind := ⟨_, rfl⟩
      obtain ⟨dt, hdt⟩ : ∃ k, k = (toldT xy).text := ⟨_, rfl⟩
      rw [← hdk, ← hdt] at hv ⊢
      have HVV := Lib.hid hv
      clear hv hdk hdt
      replace HBx := Lib.hid (HBx.out.keep hb)
      replace HVx := Lib.hid (HVx.out.below hb)
      replace HFN := Lib.hid (HFN.out.below hb)
      replace HB := Lib.hid (HB.out.trans (hb.mono HB.out.size))
      clear hb
      obtain ⟨W5, hW5⟩ : ∃ W, W = w4.alloc (.cells #[.int .i64 dk, .string dt, (.slice da dn dc)] 39) := ⟨_, rfl⟩
      have hb : Below w4.heap.size w4 W5 := by rw [hW5]; exact (Below.refl _ _).alloc (Nat.le_refl _) _
      have HHW5 := Lib.hid hW5
      clear hW5
      replace HBx := Lib.hid (HBx.out.keep hb)
      replace HVx := Lib.hid (HVx.out.below hb)
      have HBd := Lib.hid (show DBox W5 w4.heap.size dk dt (.slice da dn dc) by rw [HHW5.out]; exact DBox.made _ _ _ _)
      have HSW5 := Lib.hid (show W5.heap.size = w4.heap.size + 1 by rw [HHW5.out, alloc_hs])
      have HVd := Lib.hid (HVV.out.below hb)
      clear HVV
      replace HFN := Lib.hid (HFN.out.below hb)
      replace HB := Lib.hid (HB.out.trans (hb.mono HB.out.size))
      clear hb
      clear x0 x1 x2 x3 x4 x5
      have x0 := HBx.out.c0
      have x1 := HBx.out.c1
      have x2 := HBx.out.c2
      have x3 := HBx.out.c3
      have x4 := HBx.out.c4
      have x5 := HBx.out.c5
      rw [HHW5.out] at x0 x1 x2 x3 x4 x5
      go_wp2_with fail
      rw [← HHW5.out]
      refine (HRR.out W5 HVx.out).mono ?_
      rintro e w6 ⟨rfl, hb⟩
      replace HBx := Lib.hid (HBx.out.keep hb)
      replace HVx := Lib.hid (HVx.out.below hb)
      replace HBd := Lib.hid (HBd.out.keep hb)
      replace HVd := Lib.hid (HVd.out.below hb)
      replace HFN := Lib.hid (HFN.out.below hb)
      replace HB := Lib.hid (HB.out.trans (hb.mono HB.out.size))
      clear hb
      clear x0 x1 x2 x3 x4 x5
      have d0 := HBd.out.c0
      have d1 := HBd.out.c1
      have d2 := HBd.out.c2
      go_wp2_with fail
      refine (read_p N0 xy _ w6 (by have := HSZ.out; omega) HZ.out.symm (by have := told_sz xy; have := HSZ.out; omega) n0 HFN.out HVd.out).mono ?_
      rintro e w7 ⟨⟨v, rfl, hv⟩, hb⟩
      obtain ⟨ba, bf, bp, bpa, bnp, bpc, bk, bfa, bnf, bfc, rfl⟩ := hv.shape
      have HVV := Lib.hid hv
      clear hv
      replace HBx := Lib.hid (HBx.out.keep hb)
      replace HVx := Lib.hid (HVx.out.below hb)
      replace HBd := Lib.hid (HBd.out.keep hb)
      replace HVd := Lib.hid (HVd.out.below hb)
      replace HFN := Lib.hid (HFN.out.below hb)
      replace HB := Lib.hid (HB.out.trans (hb.mono HB.out.size))
      clear hb
      obtain ⟨W8, hW8⟩ : ∃ W, W = w7.alloc (.cells #[.bool ba, .int .i64 bf, .int .i64 bp, (.slice bpa bnp bpc), .int .i64 bk, (.slice bfa bnf bfc)] 24) := ⟨_, rfl⟩
      have hb : Below w7.heap.size w7 W8 := by rw [hW8]; exact (Below.refl _ _).alloc (Nat.le_refl _) _
      have HHW8 := Lib.hid hW8
      clear hW8
      replace HBx := Lib.hid (HBx.out.keep hb)
      replace HVx := Lib.hid (HVx.out.below hb)
      replace HBd := Lib.hid (HBd.out.keep hb)
      replace HVd := Lib.hid (HVd.out.below hb)
      have HBb := Lib.hid (show BoxAt W8 w7.heap.size ba bf bp (.slice bpa bnp bpc) bk (.slice bfa bnf bfc) by rw [HHW8.out]; exact BoxAt.made _ _ _ _ _ _ _)
      have HSW8 := Lib.hid (show W8.heap.size = w7.heap.size + 1 by rw [HHW8.out, alloc_hs])
      have HVb := Lib.hid (HVV.out.below hb)
      clear HVV
      replace HFN := Lib.hid (HFN.out.below hb)
      replace HB := Lib.hid (HB.out.trans (hb.mono HB.out.size))
      clear hb
      clear d0 d1 d2
      have x0 := HBx.out.c0
      have x1 := HBx.out.c1
      have x2 := HBx.out.c2
      have x3 := HBx.out.c3
      have x4 := HBx.out.c4
      have x5 := HBx.out.c5
      have b0 := HBb.out.c0
      have b1 := HBb.out.c1
      have b2 := HBb.out.c2
      have b3 := HBb.out.c3
      have b4 := HBb.out.c4
      have b5 := HBb.out.c5
      rw [HHW8.out] at x0 x1 x2 x3 x4 x5 b0 b1 b2 b3 b4 b5
      go_wp2_with fail
      rw [← HHW8.out]
      refine (same_any xy xy _ _ W8 HVx.out.v HVb.out.v).mono ?_
      rintro e w9 ⟨rfl, hb⟩
      replace HBx := Lib.hid (HBx.out.keep hb)
      replace HVx := Lib.hid (HVx.out.below hb)
      replace HBd := Lib.hid (HBd.out.keep hb)
      replace HVd := Lib.hid (HVd.out.below hb)
      replace HBb := Lib.hid (HBb.out.keep hb)
      replace HVb := Lib.hid (HVb.out.below hb)
      replace HFN := Lib.hid (HFN.out.below hb)
      replace HB := Lib.hid (HB.out.trans (hb.mono HB.out.size))
      clear hb
      clear x0 x1 x2 x3 x4 x5 b0 b1 b2 b3 b4 b5
      rw [same_self]
      go_wp2
      go_ret
      exact ⟨rfl, HB.out⟩
end Go.Proofs.YtdjhjapfmbcmlaaDoor
