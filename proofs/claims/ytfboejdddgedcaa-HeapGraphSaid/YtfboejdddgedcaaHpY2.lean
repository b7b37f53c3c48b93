import Derived.Test.YtfboejdddgedcaaHpO2
import Derived.Test.YtfboejdddgedcaaHpO3
namespace Go.Proofs.Ytfboejdddgedcaa
open Go.RowKit

theorem OpS.later {w w' : World} {ok : Nat → Prop} {v : Value} {l : List Op8} (h : OpS w ok v l) (hok : ∀ b, ok b → b < w.heap.size) (hB : Below w.heap.size w w') : OpS w' ok v l := by
  have hc : ∀ k o, ok k → w'.cell? ⟨k, o, none⟩ = w.cell? ⟨k, o, none⟩ := fun k o hk => hB.cell (p := ⟨k, o, none⟩) (hok k hk)
  cases h with
  | mkNil a c => exact .mkNil a c
  | mkSome b off cap n l h1 h2 h3 h4 =>
    refine .mkSome b off cap n l h1 h2 h3 fun j hj => ?_
    obtain ⟨fv, h⟩ := h4 j hj
    exact ⟨fv, (hc _ _ h1).trans h.c0, (hc _ _ h1).trans h.c1, (hc _ _ h1).trans h.c2, (hc _ _ h1).trans h.c3, (hc _ _ h1).trans h.c4, (hc _ _ h1).trans h.c5, (hc _ _ h1).trans h.c6, h.fs.mono (fun _ h => h) hc, h.lt⟩
theorem WdS.later {w w' : World} {ok : Nat → Prop} {v : Value} {l : List Nat} (h : WdS w ok v l) (hok : ∀ b, ok b → b < w.heap.size) (hB : Below w.heap.size w w') : WdS w' ok v l :=
  h.mono (fun _ h => h) fun k o hk => hB.cell (p := ⟨k, o, none⟩) (hok k hk)
theorem flds_word {L : List Ob} {t : Nat} (ht : t < L.length) : fldsH L (wordH L t) = (L.getD t ob0).f := by
  unfold fldsH
  rw [(atH_some (k := t)).2 ⟨ht, rfl⟩]
/-- what the law has looked at is clean -/
theorem clean_of {L : List Ob} {made roots : List Nat} {i : Nat} (hm : MadeP L made i) (hs : ∀ t, t < made.length → ∀ x ∈ fldsH L (made.getD t 0), GdW L x) (hr : ∀ t, t < roots.length → GdW L (roots.getD t 0)) : CleanH L roots := by
  refine ⟨fun x hx => ?_, fun o ho x hx => ?_⟩
  · obtain ⟨t, ht, rfl⟩ := List.getElem_of_mem hx
    have := hr t ht
    simpa [List.getD_eq_getElem?_getD, ht, GdW] using this
  · obtain ⟨t, ht, rfl⟩ := List.getElem_of_mem ho
    have h1 := hs t (by rw [hm.len]; exact ht) x
    rw [hm.at_ t ht, flds_word ht] at h1
    exact h1 (by simpa [List.getD_eq_getElem?_getD, ht] using hx)
theorem reloc_lt {l : List Ob} {o : List Nat} {w : Nat} (hu : usedH l ≤ 1048576) (hw : w < 18446744073709551616) (ho : OrdH l o) : relocH l o w < 18446744073709551616 := by
  cases he : atH l w with
  | none => rw [reloc_none he]; exact hw
  | some k =>
    rw [reloc_some he]
    have h1 := used_le ho
    have h2 : adrO l o (o.idxOf k) ≤ 1 + usedH (newH l o) := by
      rw [← adr_new]
      by_cases hlt : o.idxOf k ≤ (newH l o).length
      · have := adrH_le (l := newH l o) hlt (Nat.le_refl _)
        rw [adrH_end] at this; exact this
      · have := used_take (l := newH l o) (o.idxOf k)
        unfold adrH; omega
    omega
theorem below_dr {B : Nat} {a w : World} (h : Below B a w) (n : Nat) : Below B a (w.drewN n) := ⟨h.os, h.tape, h.output, h.size, h.block⟩

set_option maxRecDepth 100000 in
set_option maxHeartbeats 8000000 in
/-- the law's loop over the roots' words -/
theorem heapagain_any {w : World} {u v : Value} {l : List Op8} {roots : List Nat} (hu : OpS w (· < w.heap.size) u l) (hv : WdS w (· < w.heap.size) v roots) (n : Nat) (hn : n < 18446744073709551616) :
    Calls Try.prog 6 #[u, v, .int .u64 n] w fun e w' => e = .returned (.bool true) ∧ Below w.heap.size w w' := by
  have q24 : ∀ (w : World) (g : Nat), (binOp .eql 24 (.pointer (some ⟨g, 0, none⟩)) (.pointer none)).run Try.prog w = .ok (.bool false) w := fun w g => rfl
  have q25 : ∀ (w : World) (g : Nat), (binOp .neq 24 (.pointer (some ⟨g, 0, none⟩)) (.pointer none)).run Try.prog w = .ok (.bool true) w := fun w g => rfl
  have HAW := Lib.hid (awake8_any w)
  have HFL := Lib.hid (fun (w1 : World) (hB : Below w.heap.size w w1) => filled_any (w := w1) (hu.later (fun _ h => h) hB) (fun b hb => Nat.lt_of_lt_of_le hb hB.size))
  have HRV := Lib.hid (fun (w1 : World) (hB : Below w.heap.size w w1) => hv.later (fun _ h => h) hB)
  have HNN := Lib.hid hn
  obtain ⟨ua, un, uc, rfl⟩ : ∃ a n c, u = .slice a n c := by
    cases hu with
    | mkNil a c => exact ⟨_, _, _, rfl⟩
    | mkSome b off cap n l h1 h2 h3 h4 => exact ⟨_, _, _, rfl⟩
  obtain ⟨va, vc, rfl⟩ := hv.val
  have hrm : (roots.length : Int) ≤ 9223372036854775807 := by have := hv.len; unfold maxLen at this; omega
  have HRS := Lib.hid hv.small
  obtain ⟨rn, hrn⟩ : ∃ rn, rn = roots.length := ⟨_, rfl⟩
  rw [← hrn] at HRV hrm ⊢
  have HRN := Lib.hid hrn
  clear hu hv hn hrn
  go_enter Try.func6, Try.ntmps6
  go_wp2_with fail
  refine HAW.out.mono ?_
  rintro e w1 ⟨rfl, hb1⟩
  have HB1 := Lib.hid hb1
  have HF1 := Lib.hid (HFL.out w1 hb1)
  have HR1 := Lib.hid (HRV.out w1 hb1)
  clear hb1 HAW HFL HRV
  go_wp2_with fail
  refine HF1.out.mono ?_
  rintro e w2 ⟨hb, ma, mn, mc, okb, L, made, rfl, hp2, hr2, hf2, hb2, hm2⟩
  have HP2 := Lib.hid hp2
  have HM2 := Lib.hid hr2
  have HB2 := Lib.hid (HB1.out.trans (hb2.mono HB1.out.size))
  have HR2 := Lib.hid (HR1.out.later (fun _ h => Nat.lt_of_lt_of_le h HB1.out.size) hb2)
  have HMP := Lib.hid hm2
  clear hp2 hr2 hf2 hb2 hm2 HF1 HR1
  cases okb with
  | false =>
    clear HMP
    go_wp2
    go_ret
    exact ⟨rfl, HB2.out⟩
  | true =>
  by_cases h20 : 20 < rn
  · go_wp2
    go_ret
    exact ⟨rfl, HB2.out⟩
  have HMD := Lib.hid (HMP.out rfl)
  clear HMP
  have HU := Lib.hid HP2.out.used
  have HMS := Lib.hid (HMD.out.small (Nat.le_trans HU.out.1 HU.out.2.1))
  have HML := Lib.hid (show made.length ≤ 100000 by have h1 := HMD.out.len; have h2 := HMD.out.cnt; omega)
  have HST := Lib.hid (stray_any HP2.out (HM2.out.wds HMS.out))
  go_wp2_with fail
  refine HST.out.mono ?_
  rintro e w3 ⟨z, rfl, ⟨d3, rfl⟩, hz⟩
  cases z with
  | true =>
    go_wp2
    go_ret
    exact ⟨rfl, below_dr HB2.out d3⟩
  | false =>
  have HZ := Lib.hid (hz rfl)
  clear hz HST
  have HPS := Lib.hid (HP2.out.drew d3)
  have HMDS := Lib.hid (show RowM (w2.drewN d3) (.slice ma mn mc) made from HM2.out.keep fun _ _ => rfl)
  have HBS := Lib.hid (below_dr HB2.out d3)
  have HRR := Lib.hid (show WdS (w2.drewN d3) (fun x => x < w.heap.size) (.slice va rn vc) roots from HR2.out.mono (w := w2) (w' := w2.drewN d3) (fun _ h => h) (fun _ _ _ => rfl))
  clear HP2 HM2 HB2 HR2
  generalize w2.drewN d3 = wS at *
  go_wp2_with fail
  refine (pused_any HPS.out).mono ?_
  rintro e w4 ⟨rfl, rfl⟩
  go_wp2_with fail
  refine (words_any HRR.out (HMDS.out.wds HMS.out) (fun b hb => Nat.lt_of_lt_of_le hb HBS.out.size) (fun b hb => HMDS.out.lt hb) n HNN.out (by rw [← HRN.out]; omega) HML.out).mono ?_
  rintro e wF ⟨fv, rfl, hrf, hff, hbf⟩
  obtain ⟨from_, hfrom⟩ : ∃ f, f = wordsL roots n made := ⟨_, rfl⟩
  rw [← hfrom] at hrf
  have hfl : from_.length = rn := by rw [hfrom, wordsL_len, ← HRN.out]
  have hfs : ∀ x ∈ from_, x < 18446744073709551616 := by rw [hfrom]; exact wordsL_lt HRS.out HMS.out
  obtain ⟨fa, fc, rfl, _⟩ := hrf.val
  rw [hfl] at hrf hff ⊢
  have HFL := Lib.hid hfl
  have HFS := Lib.hid hfs
  have HRF := Lib.hid hrf
  have HPF := Lib.hid (show PhAt wF (fun k => NB w1 (.slice ma mn mc) k ∨ (Value.slice fa rn fc).ownBlock = some k) hb 16384 L from HPS.out.oth hbf.size (fun k hk _ => hbf.block k hk) (fun k hk => hk.elim (fun h => ⟨.inl h, Nat.lt_of_lt_of_le (HPS.out.low k h) hbf.size⟩) fun h => ⟨.inr (hff k h), hrf.lt h⟩))
  have HBF := Lib.hid (HBS.out.trans (hbf.mono HBS.out.size))
  have HW1 := Lib.hid HB1.out.size
  clear hrf hff hbf hfrom hfl hfs HPS HMDS HBS HRR
  go_wp2
  go_loopw [13] (fun iv wr => ∃ t d : Nat, t ≤ rn ∧ iv = .int .i64 t ∧ Hid (∀ s, s < t → GdW L (from_.getD s 0)) ∧ wr = wF.drewN d) (fun iv _ => rn - (intOf iv).toNat)
  case atStart => exact ⟨0, 0, Nat.zero_le _, rfl, Lib.hid fun t ht => absurd ht (Nat.not_lt_zero _), rfl⟩
  case round =>
    obtain ⟨t, d, ht, rfl, HG, rfl⟩ := hrel
    by_cases hlt : t < rn
    · have htl : t < from_.length := by rw [HFL.out]; exact hlt
      obtain ⟨g, c', hv, e0, _⟩ := HRF.out.get htl
      rw [HFL.out] at hv
      cases hv
      have hx := HFS.out _ (getD_mem htl)
      obtain ⟨x, hxx⟩ : ∃ x, x = from_.getD t 0 := ⟨_, rfl⟩
      rw [← hxx] at e0 hx
      have HK := Lib.hid (fun d => pkind_any (HPF.out.drew d) x hx)
      have HPL := Lib.hid (fun w => pplace_any x hx w)
      have HBT := Lib.hid (bad_test L x)
      have HXX := Lib.hid hxx
      generalize kindH L x = kp at *
      obtain ⟨kd, kb⟩ := kp
      generalize othH x 0 = pp at *
      obtain ⟨pa, pb⟩ := pp
      dsimp only at *
      clear hx hxx htl
      go_wp2_with fail
      refine (HK.out _).mono ?_
      rintro e w5 ⟨rfl, d5, rfl⟩
      rw [World.drewN_drewN]
      go_wp2_with fail
      refine (HPL.out _).mono ?_
      rintro e w6 ⟨rfl, rfl⟩
      have hstep : GdW L x → ∀ s, s < t + 1 → GdW L (from_.getD s 0) := fun hg s hs => by
        rcases Nat.lt_or_ge s t with h1 | h1
        · exact HG.out s h1
        · obtain rfl : s = t := by omega
          rw [← HXX.out]; exact hg
      have HSTEP := Lib.hid hstep
      clear hstep
      cases kb with
      | true =>
        have HB2 := Lib.hid (HBT.out (by simp))
        clear HBT
        go_wp2
        exact ⟨⟨t + 1, _, hlt, by go_num, Lib.hid (HSTEP.out HB2.out), rfl⟩, by simp [intOf]; omega⟩
      | false =>
        cases pb with
        | false =>
          have HB2 := Lib.hid (HBT.out (by simp))
          clear HBT
          go_wp2
          exact ⟨⟨t + 1, _, hlt, by go_num, Lib.hid (HSTEP.out HB2.out), rfl⟩, by simp [intOf]; omega⟩
        | true =>
          by_cases hpa : 0 < pa
          · clear HBT
            go_wp2
            go_ret
            exact ⟨rfl, below_dr HBF.out _⟩
          · have HB2 := Lib.hid (HBT.out (by simpa using hpa))
            clear HBT
            go_wp2
            exact ⟨⟨t + 1, _, hlt, by go_num, Lib.hid (HSTEP.out HB2.out), rfl⟩, by simp [intOf]; omega⟩
    · obtain rfl : t = rn := by omega
      have HCL := Lib.hid (show CleanH L from_ from clean_of HMD.out HZ.out (by rw [HFL.out]; exact HG.out))
      have HPG := Lib.hid (HPF.out.drew d)
      have HRG := Lib.hid (show RowM (wF.drewN d) (.slice fa t fc) from_ from HRF.out.keep fun _ _ => rfl)
      have HBG := Lib.hid (below_dr HBF.out d)
      have HLOW := Lib.hid (show ∀ k, k < w.heap.size → NB w1 (.slice ma mn mc) k from fun k hk => .inl (Nat.lt_of_lt_of_le hk HW1.out))
      clear HG HPF HRF HBF HZ
      generalize wF.drewN d = wG at *
      generalize NB w1 (.slice ma mn mc) = NM at *
      go_wp2_with fail
      refine (pcollect_any HPG.out (HRG.out.wds HFS.out) (fun b hb => .inr hb) (by rw [HFL.out]; omega)).mono ?_
      rintro e wH ⟨av, rfl, har, haf, hap, hak⟩
      have hcs : ∀ x ∈ (collH L from_).2, x < 18446744073709551616 := fun x hx => by
        obtain ⟨y, hy, rfl⟩ := List.mem_map.1 hx
        exact reloc_lt (Nat.le_trans HU.out.1 HU.out.2.1) (HFS.out y hy) (orderH_ord _ _)
      have HCA := Lib.hid (coll_again HCL.out)
      have HLE := Lib.hid (used_le (orderH_ord L from_))
      have hal : (collH L from_).2.length = t := by show (from_.map _).length = t; rw [List.length_map, HFL.out]
      generalize hc1 : (collH L from_).1 = L1 at *
      generalize hc2 : (collH L from_).2 = al at *
      rw [show newH L (orderH L from_) = L1 from hc1] at HLE
      rw [show collH L from_ = (L1, al) by rw [← hc1, ← hc2]] at HCA
      obtain ⟨aa, ac, rfl, _⟩ := har.val
      rw [hal] at har haf hap ⊢
      have HAR := Lib.hid har
      have HAP := Lib.hid hap
      have HAK := Lib.hid (HBG.out.trans (hak.below (B := w.heap.size) (fun k hk => .inl (HLOW.out k hk)) HBG.out.size))
      have HAS := Lib.hid hcs
      have HAL := Lib.hid hal
      clear har haf hap hak hcs hal hc1 hc2 HPG HRG HBG HCL
      go_wp2_with fail
      refine (pused_any HAP.out).mono ?_
      rintro e w7 ⟨rfl, rfl⟩
      go_wp2_with fail
      refine (pcollect_any HAP.out (HAR.out.wds HAS.out) (fun b hb => .inr hb) (by rw [HAL.out]; omega)).mono ?_
      rintro e wI ⟨bv, rfl, hbr, hbf, hbp, hbk⟩
      rw [HCA.out] at hbr hbp
      obtain ⟨ba, bc, rfl, _⟩ := RowM.val (l := al) hbr
      rw [HAL.out] at hbr hbp hbf ⊢
      have HBR := Lib.hid (show RowM wI (.slice ba t bc) al from hbr)
      have HBP := Lib.hid (show PhAt wI _ hb 16384 L1 from hbp)
      have HAR2 := Lib.hid (HAR.out.keep fun k hk => hbk.block k (HAR.out.lt hk) (.inr hk))
      have HBK := Lib.hid (HAK.out.trans (hbk.below (B := w.heap.size) (fun k hk => .inl (.inl (HLOW.out k hk))) HAK.out.size))
      clear hbr hbf hbp hbk HAP HAR HAK
      go_wp2_with fail
      refine (rsame_any (HAR2.out.wds HAS.out) (HBR.out.wds HAS.out) (by rw [HAL.out]; omega)).mono ?_
      rw [beq_self_eq_true]
      rintro e wJ ⟨rfl, dJ, rfl⟩
      have HPQ := Lib.hid (HBP.out.drew dJ)
      have HBQ := Lib.hid (below_dr HBK.out dJ)
      clear HBP HBK HAR2 HBR HCA
      generalize wI.drewN dJ = wQ at *
      have hu0 := HU.out.1
      have hu1 := HLE.out
      have HU1 := Lib.hid (fun d => pused_any (HPQ.out.drew d))
      have HRM := Lib.hid (fun d => proom_any (HPQ.out.drew d))
      have HCN := Lib.hid (fun d => pcollect_any (HPQ.out.drew d) (u := .slice none 0 0) (roots := []) (ok := fun _ => False) (.mkNil none 0) (fun b hb => hb.elim) (Nat.zero_le _))
      have HBR2 := Lib.hid (fun d => below_dr HBQ.out d)
      generalize usedH L1 = u1 at *
      generalize usedH L = u0 at *
      go_wp2_with fail
      refine (HU1.out 0).mono ?_
      rintro e w8 ⟨rfl, rfl⟩
      go_wp2_with fail
      refine (HRM.out 0).mono ?_
      rintro e w9 ⟨rfl, d9, rfl⟩
      rw [World.drewN_drewN]
      have HRR : ((16384 : Int) - (u1 : Int) + (u1 : Int)) = 16384 := by omega
      go_wp2_with fail
      refine (HCN.out _).mono ?_
      rintro e wR ⟨xv, rfl, hxr, hxf, hxp, hxk⟩
      rw [coll_nil] at hxp
      have HXP := Lib.hid (show PhAt wR _ hb 16384 [] from hxp)
      have HXK := Lib.hid ((HBR2.out _).trans (hxk.below (B := w.heap.size) (fun k hk => .inl (.inl (.inl (HLOW.out k hk)))) (HBR2.out _).size))
      clear hxr hxf hxp hxk HCN HPQ HBR2
      have HU2 := Lib.hid (pused_any HXP.out)
      have HRM2 := Lib.hid (proom_any HXP.out)
      rw [usedH_nil] at HU2 HRM2
      go_wp2_with fail
      refine HU2.out.mono ?_
      rintro e w10 ⟨rfl, rfl⟩
      go_wp2_with fail
      refine HRM2.out.mono ?_
      rintro e w11 ⟨rfl, d11, rfl⟩
      go_wp2
      go_ret
      exact ⟨rfl, below_dr HXK.out _⟩
end Go.Proofs.Ytfboejdddgedcaa
