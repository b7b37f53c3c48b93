import Derived.Test.YtfboejdddgedcaaHpO4
namespace Go.Proofs.Ytfboejdddgedcaa
open Go.RowKit

theorem graph_out {l : List Ob} {roots : List Nat} (ho : orderH l roots = List.range l.length) (hn : roots.length + (l.map fun o => o.f.length).sum ≤ 3000) : OutOK (graphH l roots) (usedH l) := by
  have hrest : restH l [] = (l.map fun o => o.f.length).sum := by
    unfold restH
    congr 1
    apply List.ext_getElem (by simp)
    intro i h1 h2
    simp [List.getD_eq_getElem?_getD, show i < l.length by simpa using h2]
  obtain ⟨t, h1, h2⟩ := gph_done (l := l) 3000 0 [] roots [] ⟨by simp, by simp, fun _ h => absurd h (Nat.not_lt_zero _), by simp, outOK_nil, Nat.zero_le _⟩ (by rw [hrest]; omega)
  have e := prs_out h2.out (n := (graphH l roots).length) (Nat.le_refl _)
  have e2 := graph_words ho hn _ (Nat.le_refl _)
  rw [← e2]
  have e3 : prsH (graphH l roots).length (graphH l roots) = (((gphH l 3000 0 [] roots []).2).map (szW l)).sum := e
  rw [e3]
  exact h2.out
theorem fsum_le {l : List Ob} (h : ∀ k, k < l.length → (l.getD k ob0).f.length ≤ 20) : (l.map fun o => o.f.length).sum ≤ 20 * l.length := by
  have h2 : ∀ o ∈ l, o.f.length ≤ 20 := fun o ho => by
    obtain ⟨k, hk, rfl⟩ := List.getElem_of_mem ho
    have := h k hk
    simpa [List.getD_eq_getElem?_getD, hk] using this
  clear h
  induction l with
  | nil => simp
  | cons o r ih =>
    have h3 := h2 o List.mem_cons_self
    have h4 := ih fun x hx => h2 x (List.mem_cons_of_mem _ hx)
    simp only [List.map_cons, List.sum_cons, List.length_cons]
    omega
theorem new_fl {l : List Ob} {o : List Nat} (ho : OrdH l o) (h : ∀ k, k < l.length → (l.getD k ob0).f.length ≤ 20) : ∀ k, k < (newH l o).length → ((newH l o).getD k ob0).f.length ≤ 20 := by
  intro k hk
  rw [newH_len] at hk
  have e : (newH l o).getD k ob0 = movedH l o (o.getD k 0) := by unfold newH; simp [List.getD_eq_getElem?_getD, hk]
  have h1 := moved_sz l o (o.getD k 0)
  rw [e]
  unfold szO szI at h1
  have h2 := h (o.getD k 0) (ho.2 _ (getD_mem hk))
  unfold szO at h1
  omega
theorem drop_chunk {G c rest : List Nat} {i : Nat} (h : G.drop i = c ++ rest) (hc : 0 < c.length) : i + c.length ≤ G.length ∧ (∀ t, t < c.length → G.getD (i + t) 0 = c.getD t 0) ∧ G.drop (i + c.length) = rest := by
  have hl := congrArg List.length h
  rw [List.length_drop, List.length_append] at hl
  refine ⟨by omega, fun t ht => ?_, ?_⟩
  · have h2 : (G.drop i).getD t 0 = (c ++ rest).getD t 0 := by rw [h]
    rw [getD_app_lt ht] at h2
    rw [← h2]
    simp [List.getD_eq_getElem?_getD]
  · rw [← List.drop_drop, h, List.drop_left]
def sumC (cs : List (List Nat × Nat)) : Nat := (cs.map fun p => p.2).sum
def flatC (cs : List (List Nat × Nat)) : List Nat := (cs.map fun p => p.1).flatten

set_option maxRecDepth 100000 in
set_option maxHeartbeats 8000000 in
/-- HeapGraph -/
theorem heapgraph_any {w : World} {u v : Value} {l : List Op8} {roots : List Nat} (hu : OpS w (· < w.heap.size) u l) (hv : WdS w (· < w.heap.size) v roots) (n : Nat) (hn : n < 18446744073709551616) :
    Calls Try.prog 5 #[u, v, .int .u64 n] w fun e w' => e = .returned (.bool true) ∧ Below w.heap.size w w' := by
  have q24 : ∀ (w : World) (g : Nat), (binOp .eql 24 (.pointer (some ⟨g, 0, none⟩)) (.pointer none)).run Try.prog w = .ok (.bool false) w := fun w g => rfl
  have q25 : ∀ (w : World) (g : Nat), (binOp .neq 24 (.pointer (some ⟨g, 0, none⟩)) (.pointer none)).run Try.prog w = .ok (.bool true) w := fun w g => rfl
  have HAW := Lib.hid (awake8_any w)
  have HFL := Lib.hid (fun (w1 : World) (hB : Below w.heap.size w w1) => filled_any (w := w1) (hu.later (fun _ h => h) hB) (fun b hb => Nat.lt_of_lt_of_le hb hB.size))
  have HRV := Lib.hid (fun (w1 : World) (hB : Below w.heap.size w w1) => hv.later (fun _ h => h) hB)
  have HNN := Lib.hid hn
  obtain ⟨ua, un, uc, rfl⟩ : ∃ a n c, u = .slice a n c := by
    cases hu with
    | mkNil a c => exact ⟨_, _, _, rfl⟩
    | mkSome b off cap n l h1 h2 h3 h4 => exact ⟨_, _, _, rfl⟩
  obtain ⟨va, vc, rfl⟩ := hv.val
  have hrm : (roots.length : Int) ≤ 9223372036854775807 := by have := hv.len; unfold maxLen at this; omega
  have HRS := Lib.hid hv.small
  obtain ⟨rn, hrn⟩ : ∃ rn, rn = roots.length := ⟨_, rfl⟩
  rw [← hrn] at HRV hrm ⊢
  have HRN := Lib.hid hrn
  clear hu hv hn hrn
  go_enter Try.func5, Try.ntmps5
  go_wp2_with fail
  refine HAW.out.mono ?_
  rintro e w1 ⟨rfl, hb1⟩
  have HB1 := Lib.hid hb1
  have HF1 := Lib.hid (HFL.out w1 hb1)
  have HR1 := Lib.hid (HRV.out w1 hb1)
  clear hb1 HAW HFL HRV
  go_wp2_with fail
  refine HF1.out.mono ?_
  rintro e w2 ⟨hb, ma, mn, mc, okb, L, made, rfl, hp2, hr2, hf2, hb2, hm2⟩
  have HP2 := Lib.hid hp2
  have HM2 := Lib.hid hr2
  have HB2 := Lib.hid (HB1.out.trans (hb2.mono HB1.out.size))
  have HR2 := Lib.hid (HR1.out.later (fun _ h => Nat.lt_of_lt_of_le h HB1.out.size) hb2)
  have HMP := Lib.hid hm2
  clear hp2 hr2 hf2 hb2 hm2 HF1 HR1
  cases okb with
  | false =>
    clear HMP
    go_wp2
    go_ret
    exact ⟨rfl, HB2.out⟩
  | true =>
  by_cases h20 : 20 < rn
  · go_wp2
    go_ret
    exact ⟨rfl, HB2.out⟩
  have HMD := Lib.hid (HMP.out rfl)
  clear HMP
  have HU := Lib.hid HP2.out.used
  have HMS := Lib.hid (HMD.out.small (Nat.le_trans HU.out.1 HU.out.2.1))
  have HML := Lib.hid (show made.length ≤ 100000 by have h1 := HMD.out.len; have h2 := HMD.out.cnt; omega)
  go_wp2_with fail
  refine (words_any HR2.out (HM2.out.wds HMS.out) (fun b hb => Nat.lt_of_lt_of_le hb HB2.out.size) (fun b hb => HM2.out.lt hb) n HNN.out (by rw [← HRN.out]; omega) HML.out).mono ?_
  rintro e wF ⟨fv, rfl, hrf, hff, hbf⟩
  obtain ⟨from_, hfrom⟩ : ∃ f, f = wordsL roots n made := ⟨_, rfl⟩
  rw [← hfrom] at hrf
  have hfl : from_.length = rn := by rw [hfrom, wordsL_len, ← HRN.out]
  have hfs : ∀ x ∈ from_, x < 18446744073709551616 := by rw [hfrom]; exact wordsL_lt HRS.out HMS.out
  obtain ⟨fa, fc, rfl, _⟩ := hrf.val
  rw [hfl] at hrf hff ⊢
  have HFL := Lib.hid hfl
  have HFS := Lib.hid hfs
  have HRF := Lib.hid hrf
  have HPF := Lib.hid (show PhAt wF (fun k => NB w1 (.slice ma mn mc) k ∨ (Value.slice fa rn fc).ownBlock = some k) hb 16384 L from HP2.out.oth hbf.size (fun k hk _ => hbf.block k hk) (fun k hk => hk.elim (fun h => ⟨.inl h, Nat.lt_of_lt_of_le (HP2.out.low k h) hbf.size⟩) fun h => ⟨.inr (hff k h), hrf.lt h⟩))
  have HBF := Lib.hid (HB2.out.trans (hbf.mono HB2.out.size))
  have HW1 := Lib.hid HB1.out.size
  have HMF := Lib.hid (show RowM wF (.slice ma mn mc) made from HM2.out.keep fun k hk => hbf.block k (HM2.out.lt hk))
  clear hrf hff hbf hfrom hfl hfs HP2 HM2 HB2 HR2
  go_wp2
  go_loopw [12] (fun iv wr => ∃ t d : Nat, t ≤ rn ∧ iv = .int .i64 t ∧ Hid (∀ s, s < t → GdW L (from_.getD s 0)) ∧ wr = wF.drewN d) (fun iv _ => rn - (intOf iv).toNat)
  case atStart => exact ⟨0, 0, Nat.zero_le _, rfl, Lib.hid fun t ht => absurd ht (Nat.not_lt_zero _), rfl⟩
  case round =>
    obtain ⟨t, d, ht, rfl, HG, rfl⟩ := hrel
    by_cases hlt : t < rn
    · have htl : t < from_.length := by rw [HFL.out]; exact hlt
      obtain ⟨g, c', hv, e0, _⟩ := HRF.out.get htl
      rw [HFL.out] at hv
      cases hv
      have hx := HFS.out _ (getD_mem htl)
      obtain ⟨x, hxx⟩ : ∃ x, x = from_.getD t 0 := ⟨_, rfl⟩
      rw [← hxx] at e0 hx
      have HK := Lib.hid (fun d => pkind_any (HPF.out.drew d) x hx)
      have HPL := Lib.hid (fun w => pplace_any x hx w)
      have HBT := Lib.hid (bad_test L x)
      have HXX := Lib.hid hxx
      generalize kindH L x = kp at *
      obtain ⟨kd, kb⟩ := kp
      generalize othH x 0 = pp at *
      obtain ⟨pa, pb⟩ := pp
      dsimp only at *
      clear hx hxx htl
      go_wp2_with fail
      refine (HK.out _).mono ?_
      rintro e w5 ⟨rfl, d5, rfl⟩
      rw [World.drewN_drewN]
      go_wp2_with fail
      refine (HPL.out _).mono ?_
      rintro e w6 ⟨rfl, rfl⟩
      have hstep : GdW L x → ∀ s, s < t + 1 → GdW L (from_.getD s 0) := fun hg s hs => by
        rcases Nat.lt_or_ge s t with h1 | h1
        · exact HG.out s h1
        · obtain rfl : s = t := by omega
          rw [← HXX.out]; exact hg
      have HSTEP := Lib.hid hstep
      clear hstep
      cases kb with
      | true =>
        have HB2 := Lib.hid (HBT.out (by simp))
        clear HBT
        go_wp2
        exact ⟨⟨t + 1, _, hlt, by go_num, Lib.hid (HSTEP.out HB2.out), rfl⟩, by simp [intOf]; omega⟩
      | false =>
        cases pb with
        | false =>
          have HB2 := Lib.hid (HBT.out (by simp))
          clear HBT
          go_wp2
          exact ⟨⟨t + 1, _, hlt, by go_num, Lib.hid (HSTEP.out HB2.out), rfl⟩, by simp [intOf]; omega⟩
        | true =>
          by_cases hpa : 0 < pa
          · clear HBT
            go_wp2
            go_ret
            exact ⟨rfl, below_dr HBF.out _⟩
          · have HB2 := Lib.hid (HBT.out (by simpa using hpa))
            clear HBT
            go_wp2
            exact ⟨⟨t + 1, _, hlt, by go_num, Lib.hid (HSTEP.out HB2.out), rfl⟩, by simp [intOf]; omega⟩
    · obtain rfl : t = rn := by omega
      have HPG := Lib.hid (HPF.out.drew d)
      have HRG := Lib.hid (show RowM (wF.drewN d) (.slice fa t fc) from_ from HRF.out.keep fun _ _ => rfl)
      have HMG := Lib.hid (show RowM (wF.drewN d) (.slice ma mn mc) made from HMF.out.keep fun _ _ => rfl)
      have HBG := Lib.hid (below_dr HBF.out d)
      have HLOW := Lib.hid (show ∀ k, k < w.heap.size → NB w1 (.slice ma mn mc) k from fun k hk => .inl (Nat.lt_of_lt_of_le hk HW1.out))
      clear HPF HRF HBF HMF
      generalize wF.drewN d = wG at *
      generalize NB w1 (.slice ma mn mc) = NM at *
      go_wp2_with fail
      refine (stray_any HPG.out (HMG.out.wds HMS.out)).mono ?_
      rintro e w3 ⟨z, rfl, ⟨d3, rfl⟩, hz⟩
      cases z with
      | true =>
        go_wp2
        go_ret
        exact ⟨rfl, below_dr HBG.out d3⟩
      | false =>
      have HCL := Lib.hid (show CleanH L from_ from clean_of HMD.out (hz rfl) (by rw [HFL.out]; exact HG.out))
      have HPS := Lib.hid (HPG.out.drew d3)
      have HRS2 := Lib.hid (show RowM (wG.drewN d3) (.slice fa t fc) from_ from HRG.out.keep fun _ _ => rfl)
      have HBS := Lib.hid (below_dr HBG.out d3)
      clear hz HG HPG HRG HMG HBG
      generalize wG.drewN d3 = wS at *
      have h20t : t ≤ 20 := by omega
      go_wp2_with fail
      refine (graph_any HPS.out (HRS2.out.wds HFS.out) (by rw [HFL.out]; exact h20t) HMD.out.fl).mono ?_
      rintro e w6 ⟨gv, rfl, hg1, hg2, hg3, hg4, hg5⟩
      obtain ⟨ga, gc, rfl, _⟩ := hg1.val
      obtain ⟨G, hG⟩ : ∃ G, G = graphH L from_ := ⟨_, rfl⟩
      rw [← hG] at hg1 hg4 hg5
      have HGG := Lib.hid hG
      obtain ⟨gl, hgl⟩ : ∃ gl, gl = G.length := ⟨_, rfl⟩
      rw [← hG, ← hgl] at hg2 ⊢
      rw [← hgl] at hg1 hg4
      have HGL := Lib.hid hgl
      have HG1 := Lib.hid hg1
      have HP6 := Lib.hid (show PhAt w6 (fun k => (NM k ∨ (Value.slice fa t fc).ownBlock = some k) ∨ (Value.slice ga gl gc).ownBlock = some k) hb 16384 L from HPS.out.oth hg3.size (fun k hk _ => hg3.block k hk) (fun k hk => hk.elim (fun h => ⟨.inl h, Nat.lt_of_lt_of_le (HPS.out.low k h) hg3.size⟩) fun h => ⟨.inr (hg2 k h), hg1.lt h⟩))
      have HR6 := Lib.hid (show RowM w6 (.slice fa t fc) from_ from HRS2.out.keep fun k hk => hg3.block k (HRS2.out.lt hk))
      have HB6 := Lib.hid (HBS.out.trans (hg3.mono HBS.out.size))
      have HG4 := Lib.hid hg4
      have HGB := Lib.hid hg5
      clear hG hgl hg1 hg2 hg3 hg4 hg5 HPS HRS2 HBS
      go_wp2_with fail
      refine (pcollect_any HP6.out (HR6.out.wds HFS.out) (fun b hb => .inl (.inr hb)) (by rw [HFL.out]; omega)).mono ?_
      rintro e wH ⟨av, rfl, har, haf, hap, hak⟩
      have hcs : ∀ x ∈ (collH L from_).2, x < 18446744073709551616 := fun x hx => by
        obtain ⟨y, hy, rfl⟩ := List.mem_map.1 hx
        exact reloc_lt (Nat.le_trans HU.out.1 HU.out.2.1) (HFS.out y hy) (orderH_ord _ _)
      have hal : (collH L from_).2.length = t := by show (from_.map _).length = t; rw [List.length_map, HFL.out]
      have hgs : graphH (collH L from_).1 (collH L from_).2 = G := by rw [graph_same HCL.out, HGG.out]
      have hfl1 : ∀ k, k < (collH L from_).1.length → ((collH L from_).1.getD k ob0).f.length ≤ 20 := new_fl (orderH_ord _ _) HMD.out.fl
      have hll : (collH L from_).1.length ≤ 40 := by
        have h1 : (collH L from_).1.length = (orderH L from_).length := newH_len _ _
        have h2 := ord_len (orderH_ord L from_)
        have h3 := HMD.out.cnt
        omega
      have hout := graph_out (order_again HCL.out) (by have h1 := fsum_le hfl1; rw [hal]; omega)
      rw [hgs] at hout
      generalize hc1 : (collH L from_).1 = L1 at *
      generalize hc2 : (collH L from_).2 = al at *
      obtain ⟨aa, ac, rfl, _⟩ := har.val
      rw [hal] at har haf hap ⊢
      have HAR := Lib.hid har
      have HAP := Lib.hid hap
      have HAK := Lib.hid (HB6.out.trans (hak.below (B := w.heap.size) (fun k hk => .inl (.inl (HLOW.out k hk))) HB6.out.size))
      have HG7 := Lib.hid (HG1.out.keep fun k hk => hak.block k (HG1.out.lt hk) (.inr hk))
      have HAS := Lib.hid hcs
      have HAL := Lib.hid hal
      have HGS := Lib.hid hgs
      have HF1 := Lib.hid hfl1
      have HOUT := Lib.hid hout
      clear har haf hap hak hcs hal hc1 hc2 hgs hfl1 hll hout HP6 HR6 HB6 HG1 HCL
      go_wp2_with fail
      refine (graph_any HAP.out (HAR.out.wds HAS.out) (by rw [HAL.out]; exact h20t) HF1.out).mono ?_
      rintro e w8 ⟨nv, rfl, hn1, hn2, hn3, hn4, _⟩
      rw [HGS.out] at hn1 hn4
      obtain ⟨na, nc, rfl, _⟩ := hn1.val
      rw [← HGL.out] at hn1 hn4 hn2 ⊢
      have HN1 := Lib.hid hn1
      have HG8 := Lib.hid (HG7.out.keep fun k hk => hn3.block k (HG7.out.lt hk))
      have HP8 := Lib.hid (HAP.out.later hn3)
      have HB8 := Lib.hid (HAK.out.trans (hn3.mono HAK.out.size))
      have hglb : gl ≤ 69000 := hn4
      clear hn1 hn2 hn3 hn4 HG7 HAP HAK HAR
      go_wp2_with fail
      refine (rsame_any (u := .slice ga gl gc) (v := .slice na gl nc) (l := G) (m := G) (HG8.out.wds HGB.out) (HN1.out.wds HGB.out) (by rw [← HGL.out]; omega)).mono ?_
      rw [beq_self_eq_true]
      rintro e w9 ⟨rfl, dJ, rfl⟩
      have HN9 := Lib.hid (show RowM (w8.drewN dJ) (.slice na gl nc) G from HN1.out.keep fun _ _ => rfl)
      have HP9 := Lib.hid (HP8.out.drew dJ)
      have HB9 := Lib.hid (below_dr HB8.out dJ)
      clear HN1 HG8 HP8 HB8
      generalize w8.drewN dJ = wN at *
      have HUL := Lib.hid HP9.out.used
      obtain ⟨u1, hu1⟩ : ∃ u1, u1 = usedH L1 := ⟨_, rfl⟩
      have hub : u1 ≤ 16384 := by rw [hu1]; exact HUL.out.1
      have HUS := Lib.hid (pused_any HP9.out)
      rw [← hu1] at HUS HOUT
      obtain ⟨cs0, hcs1, hcs2, hcs3⟩ := HOUT.out
      have HC0 := Lib.hid (show (∀ p ∈ cs0, ChkOK p.1 p.2) ∧ G = flatC cs0 ∧ u1 = sumC cs0 from ⟨hcs1, hcs2, hcs3⟩)
      clear hu1 hcs1 hcs2 hcs3 HOUT HUL
      go_wp2
      go_loop [21, 22] (fun wv iv => ∃ (i wd : Nat) (cs : List (List Nat × Nat)), i ≤ gl ∧ iv = .int .i64 i ∧ wv = .int .i64 wd ∧ wd ≤ u1 ∧ Hid ((∀ p ∈ cs, ChkOK p.1 p.2) ∧ G.drop i = flatC cs ∧ wd + sumC cs = u1)) (fun _ iv => gl - (intOf iv).toNat)
      case atStart => exact ⟨0, 0, cs0, Nat.zero_le _, rfl, rfl, Nat.zero_le _, Lib.hid ⟨HC0.out.1, by rw [List.drop_zero]; exact HC0.out.2.1, by rw [Nat.zero_add]; exact HC0.out.2.2.symm⟩⟩
      case round =>
        obtain ⟨i, wd, cs, hi, rfl, rfl, hwd, HC⟩ := hrel
        by_cases hil : i < gl
        · have hi2 : i < G.length := by rw [← HGL.out]; exact hil
          obtain ⟨gn, cn, hvn, e0, _⟩ := HN9.out.get hi2
          rw [← HGL.out] at hvn
          cases hvn
          cases cs with
          | nil =>
            exfalso
            have h1 := HC.out.2.1
            have h2 := congrArg List.length h1
            rw [List.length_drop] at h2
            simp [flatC] at h2
            omega
          | cons p r =>
            have h1 : G.drop i = p.1 ++ flatC r := HC.out.2.1
            have h2 : wd + (p.2 + sumC r) = u1 := by
              have := HC.out.2.2
              simpa [sumC] using this
            have h3 : ∀ q ∈ r, ChkOK q.1 q.2 := fun q hq => HC.out.1 q (List.mem_cons_of_mem _ hq)
            have hck := HC.out.1 p List.mem_cons_self
            obtain ⟨pc, ps⟩ := p
            dsimp only at h1 h2 hck
            obtain ⟨k1, k2, k3⟩ := drop_chunk h1 (chk_len hck)
            have k2z := k2 0 (chk_len hck)
            rw [Nat.add_zero] at k2z
            rcases hck with ⟨q, rfl, rfl⟩ | ⟨q, rfl, rfl⟩ | ⟨kk, m, rfl, hk64, rfl⟩ | ⟨kk, f, rfl, hk64, rfl⟩
            · rw [k2z] at e0
              change wN.cell? ⟨gn, i, none⟩ = some (.int .u64 0) at e0
              have HNX := Lib.hid (show (∀ p ∈ r, ChkOK p.1 p.2) ∧ G.drop (i + 2) = flatC r ∧ wd + sumC r = u1 from ⟨h3, k3, by omega⟩)
              have hi3 : i + 2 ≤ gl := by rw [HGL.out]; exact k1
              clear h1 h2 h3 k1 k2 k3 k2z HC
              go_wp2
              exact ⟨⟨i + 2, wd, r, hi3, by go_num, rfl, hwd, HNX⟩, by simp [intOf]; omega⟩
            · rw [k2z] at e0
              change wN.cell? ⟨gn, i, none⟩ = some (.int .u64 1) at e0
              have HNX := Lib.hid (show (∀ p ∈ r, ChkOK p.1 p.2) ∧ G.drop (i + 2) = flatC r ∧ wd + sumC r = u1 from ⟨h3, k3, by omega⟩)
              have hi3 : i + 2 ≤ gl := by rw [HGL.out]; exact k1
              clear h1 h2 h3 k1 k2 k3 k2z HC
              go_wp2
              exact ⟨⟨i + 2, wd, r, hi3, by go_num, rfl, hwd, HNX⟩, by simp [intOf]; omega⟩
            · rw [k2z] at e0
              change wN.cell? ⟨gn, i, none⟩ = some (.int .u64 2) at e0
              have hi3 : i + 3 ≤ gl := by rw [HGL.out]; exact k1
              obtain ⟨_, _, hv1, e1, _⟩ := HN9.out.get (j := i + 1) (by rw [← HGL.out]; omega)
              obtain ⟨_, _, hv2, e2, _⟩ := HN9.out.get (j := i + 2) (by rw [← HGL.out]; omega)
              rw [← HGL.out] at hv1 hv2
              cases hv1
              cases hv2
              rw [k2 1 (by simp)] at e1
              rw [k2 2 (by simp)] at e2
              change wN.cell? ⟨gn, i + 1, none⟩ = some (.int .u64 (kk : Nat)) at e1
              change wN.cell? ⟨gn, i + 2, none⟩ = some (.int .u64 (m : Nat)) at e2
              have HNX := Lib.hid (show (∀ p ∈ r, ChkOK p.1 p.2) ∧ G.drop (i + 3) = flatC r ∧ (wd + m + 1) + sumC r = u1 from ⟨h3, k3, by omega⟩)
              have hmb : wd + m + 1 ≤ u1 := by omega
              have hkk : ¬ ((64 : Int) ≤ kk) := by omega
              have hmm : m ≤ 16384 := by omega
              clear h1 h2 h3 k1 k2 k3 k2z HC hk64
              go_wp2
              exact ⟨⟨i + 3, wd + m + 1, r, hi3, by go_num, by go_num, hmb, HNX⟩, by simp [intOf]; omega⟩
            · rw [k2z] at e0
              change wN.cell? ⟨gn, i, none⟩ = some (.int .u64 2) at e0
              have hle : ([2, kk, f.length] ++ f).length = 3 + f.length := by simp; omega
              rw [hle] at k1 k3 k2
              have hi3 : i + (3 + f.length) ≤ gl := by rw [HGL.out]; exact k1
              obtain ⟨_, _, hv1, e1, _⟩ := HN9.out.get (j := i + 1) (by rw [← HGL.out]; omega)
              obtain ⟨_, _, hv2, e2, _⟩ := HN9.out.get (j := i + 2) (by rw [← HGL.out]; omega)
              rw [← HGL.out] at hv1 hv2
              cases hv1
              cases hv2
              rw [k2 1 (by omega)] at e1
              rw [k2 2 (by omega)] at e2
              change wN.cell? ⟨gn, i + 1, none⟩ = some (.int .u64 (kk : Nat)) at e1
              change wN.cell? ⟨gn, i + 2, none⟩ = some (.int .u64 (f.length : Nat)) at e2
              generalize f.length = m at *
              have HNX := Lib.hid (show (∀ p ∈ r, ChkOK p.1 p.2) ∧ G.drop (i + m + 3) = flatC r ∧ (wd + m + 1) + sumC r = u1 from ⟨h3, by rw [show i + m + 3 = i + (3 + m) by omega]; exact k3, by omega⟩)
              have hmb : wd + m + 1 ≤ u1 := by omega
              have hkk : (64 : Int) ≤ kk := by omega
              have hmm : m ≤ 16384 := by omega
              clear h1 h2 h3 k1 k2 k3 k2z HC hk64 hle
              go_wp2
              exact ⟨⟨i + m + 3, wd + m + 1, r, by omega, by go_num, by go_num, hmb, HNX⟩, by simp [intOf]; omega⟩
        · obtain rfl : i = gl := by omega
          have HWD := Lib.hid (show wd = u1 by
            have h1 := HC.out.2.1
            rw [HGL.out, List.drop_length] at h1
            have h2 := HC.out.2.2
            cases cs with
            | nil => simpa [sumC] using h2
            | cons p r =>
              exfalso
              have h3 := chk_len (HC.out.1 p List.mem_cons_self)
              have h4 := congrArg List.length h1
              simp [flatC] at h4
              omega)
          obtain rfl := HWD.out
          clear HWD HC
          go_wp2_with fail
          refine HUS.out.mono ?_
          rintro e w10 ⟨rfl, rfl⟩
          go_wp2
          go_ret
          exact ⟨rfl, HB9.out⟩
end Go.Proofs.Ytfboejdddgedcaa
