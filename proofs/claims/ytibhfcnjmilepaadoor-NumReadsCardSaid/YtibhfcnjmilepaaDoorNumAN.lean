import Derived.Test.YtibhfcnjmilepaaDoorNumAM
namespace Go.Proofs.YtibhfcnjmilepaaDoor
open Go.RowKit

def errZ (o : Option Int) (k : Int) : Int := match o with
  | some _ => 0
  | none => k
/-- a number, or an error and nought -/
def OptPost (o : Option Int) (k : Int) (w : World) (e : Ending) (w' : World) : Prop := (∃ v, e = .returned (.tuple #[v, .int .i64 (errZ o k)]) ∧ IntIs w' v (o.getD 0)) ∧ Below w.heap.size w w'
theorem zero_is (w : World) : IntIs w (.agg #[.bool false, .slice none 0 0]) 0 := ⟨.slice none 0 0, rfl, .inl ⟨digB_zero, _, _, rfl⟩⟩
theorem pre_read (s : List UInt8) : readZ s = bodyZ (Lib.hasPrefix s [45]) (Lib.trimPrefix s [45]) := by
  unfold readZ
  cases s with
  | nil => rfl
  | cons c r =>
    by_cases h : c = 45
    · subst h; simp [Lib.hasPrefix, Lib.trimPrefix]
    · have h2 : ¬ (45 : UInt8) = c := fun e => h e.symm
      have h3 : ((45 : UInt8) == c) = false := beq_eq_false_iff_ne.2 h2
      simp [Lib.hasPrefix, Lib.trimPrefix, List.isPrefixOf, h, h3]
theorem body_dec (m : Bool) (d : List UInt8) : bodyZ m d = if decD d = true then some (sg m (valL d)) else none := by
  unfold bodyZ decD
  by_cases h : d ≠ [] ∧ d.all isD = true
  · rw [if_pos h, if_pos (decide_eq_true h)]
  · rw [if_neg h, if_neg (by rw [decide_eq_false h]; simp)]
theorem decD_all {d : List UInt8} (h : decD d = true) : allD d := by
  unfold decD at h
  have := (of_decide_eq_true h).2
  rw [List.all_eq_true] at this
  exact this
theorem trimPre_len (s : List UInt8) : (Lib.trimPrefix s [45]).length ≤ s.length := by
  unfold Lib.trimPrefix
  split <;> simp

set_option maxRecDepth 100000 in
set_option maxHeartbeats 4000000 in
theorem pRead_any (s : ByteArray) (hs : s.size ≤ 8000) (w : World) :
    Calls Tryd.prog 9 #[.string s] w (OptPost (readZ s.data.toList) 2 w) := by
  obtain ⟨W, hW⟩ : ∃ W, W = w.alloc (.cells #[.bool false, .slice none 0 0] 25) := ⟨_, rfl⟩
  have q0 : W.heap[w.heap.size]? = some (.cells #[.bool false, .slice none 0 0] 25 (0, 0)) := by rw [hW]; exact heap_alloc_new _ _
  have hz : w.heap.size < W.heap.size := by rw [hW]; simp
  have hBW : Below w.heap.size w W := by rw [hW]; exact (Below.refl _ _).alloc (Nat.le_refl _) _
  have CT := Tryd.strings_CutPrefix s ⟨#[45]⟩ W
  obtain ⟨m, hm⟩ : ∃ m, m = Lib.hasPrefix s.data.toList [45] := ⟨_, rfl⟩
  obtain ⟨D, hD⟩ : ∃ D : ByteArray, D = ⟨(Lib.trimPrefix s.data.toList [45]).toArray⟩ := ⟨_, rfl⟩
  have hDl : D.data.toList = Lib.trimPrefix s.data.toList [45] := by rw [hD]
  have hDs : D.size ≤ 8000 := by
    rw [hD, ba_size]
    have := trimPre_len s.data.toList
    rw [ba_len] at this
    omega
  have e45 : (⟨#[45]⟩ : ByteArray).data.toList = [45] := rfl
  rw [e45, ← hm, ← hD] at CT
  have hR : readZ s.data.toList = if decD D.data.toList = true then some (sg m (valL D.data.toList)) else none := by
    rw [pre_read, body_dec, hDl, hm]
  have ID := isdec_any D (by omega) W
  have HCT := Lib.hid CT
  have HW := Lib.hid hW
  have HB := Lib.hid hBW
  have Q0 := Lib.hid q0
  have z0 : W.cell? ⟨w.heap.size, 0, none⟩ = some (.bool false) := Lib.cell_of_heap q0 0
  have z1 : W.cell? ⟨w.heap.size, 1, none⟩ = some (.slice none 0 0) := Lib.cell_of_heap q0 1
  have f0 : W.frozen? ⟨w.heap.size, 0, none⟩ = false := Lib.frozen_of_heap q0 0
  have f1 : W.frozen? ⟨w.heap.size, 1, none⟩ = false := Lib.frozen_of_heap q0 1
  cases hd : decD D.data.toList with
  | false =>
    rw [hd, if_neg (by simp)] at hR
    rw [hd] at ID
    rw [hR]
    have HID := Lib.hid ID
    clear CT hW q0 hBW hm hD hDl hR ID hd e45
    go_enter Tryd.func9, Tryd.ntmps9
    go_wp2_with fail
    rw [← HW.out]
    refine HCT.out.mono ?_
    rintro e w1 ⟨rfl, rfl⟩
    go_wp2_with fail
    refine HID.out.mono ?_
    rintro e w2 ⟨rfl, rfl⟩
    go_wp2
    refine bodyPost_ret (v := .tuple #[.agg #[.bool false, .slice none 0 0], .int .i64 2]) ?_ ?_ ?_
    · simp [results, Tryd.results9, go_sem, z0, z1]
    · rfl
    · exact ⟨⟨_, rfl, zero_is _⟩, (HB.out.setCell (p := ⟨w.heap.size, 0, none⟩) (Nat.le_refl _) _).setCell (p := ⟨w.heap.size, 1, none⟩) (Nat.le_refl _) _⟩
  | true =>
    rw [hd, if_pos rfl] at hR
    rw [hd] at ID
    rw [hR]
    have FD := fromdec_any D (by omega) (decD_all hd) W
    obtain ⟨n, hn⟩ : ∃ n, n = valL D.data.toList := ⟨_, rfl⟩
    rw [← hn] at FD ⊢
    have HID := Lib.hid ID
    have HFD := Lib.hid FD
    obtain ⟨z, hzz⟩ : ∃ z, z = sg m n := ⟨_, rfl⟩
    rw [← hzz]
    have HZ := Lib.hid hzz
    clear CT hW q0 hBW hm hD hDl hR ID hd e45 FD hn hzz z0 z1 f0 f1
    go_enter Tryd.func9, Tryd.ntmps9
    go_wp2_with fail
    rw [← HW.out]
    refine HCT.out.mono ?_
    rintro e w1 ⟨rfl, rfl⟩
    go_wp2_with fail
    refine HID.out.mono ?_
    rintro e w2 ⟨rfl, rfl⟩
    go_wp2_with fail
    refine HFD.out.mono ?_
    rintro e w3 ⟨⟨v, rfl, hu⟩, hb3⟩
    have SG := signed_any m n v w3 hu
    rw [← HZ.out] at SG
    have HSG := Lib.hid SG
    have HB3 := Lib.hid (HB.out.trans (hb3.mono HB.out.size))
    have Q3 := Lib.hid ((hb3.block w.heap.size hz).trans Q0.out)
    have hz3 : w.heap.size < w3.heap.size := by have := hb3.size; omega
    clear SG hu hb3
    go_wp2_with fail
    refine HSG.out.mono ?_
    rintro e w4 ⟨⟨v4, rfl, hi4⟩, hb4⟩
    obtain ⟨sv4, rfl, hu4⟩ := hi4
    obtain ⟨s4, c4, rfl⟩ := hu4.val
    obtain ⟨l4, hl4⟩ : ∃ l4, l4 = (digB z.natAbs).length := ⟨_, rfl⟩
    obtain ⟨bb, hbb⟩ : ∃ bb, bb = decide (z < 0) := ⟨_, rfl⟩
    rw [← hl4] at hu4 ⊢
    rw [← hbb]
    have HBB := Lib.hid hbb
    have HB4 := Lib.hid (HB3.out.trans (hb4.mono HB3.out.size))
    have q4 := (hb4.block w.heap.size hz3).trans Q3.out
    have z0 : w4.cell? ⟨w.heap.size, 0, none⟩ = some (.bool false) := Lib.cell_of_heap q4 0
    have z1 : w4.cell? ⟨w.heap.size, 1, none⟩ = some (.slice none 0 0) := Lib.cell_of_heap q4 1
    have f0 : w4.frozen? ⟨w.heap.size, 0, none⟩ = false := Lib.frozen_of_heap q4 0
    have f1 : w4.frozen? ⟨w.heap.size, 1, none⟩ = false := Lib.frozen_of_heap q4 1
    have HR := Lib.hid (hu4.set2 q4 (.bool bb) (.slice s4 l4 c4))
    clear hb4 q4 hu4 hbb hl4
    go_wp2
    refine bodyPost_ret (v := .tuple #[.agg #[.bool bb, .slice s4 l4 c4], .int .i64 0]) ?_ ?_ ?_
    · simp [results, Tryd.results9, go_sem, z0, z1]
    · rfl
    · refine ⟨⟨.agg #[.bool bb, .slice s4 l4 c4], rfl, .slice s4 l4 c4, ?_, HR.out⟩, ?_⟩
      · rw [HBB.out]; rfl
      · exact (HB4.out.setCell (p := ⟨w.heap.size, 0, none⟩) (Nat.le_refl _) _).setCell (p := ⟨w.heap.size, 1, none⟩) (Nat.le_refl _) _
def badJ (m : Bool) (l : List Nat) : Bool := if l = [] then m else decide (l.getLast? = some 0)
theorem join_bad {m : Bool} {l : List Nat} (h : badJ m l = true) : joinZ m l = none := by
  unfold badJ at h
  unfold joinZ
  rw [if_neg]
  rintro ⟨h1, h2, h3⟩
  rw [List.all_eq_true] at h1
  have hok : okB l := fun d hd => of_decide_eq_true (h1 d hd)
  by_cases hl : l = []
  · subst hl
    rw [if_pos rfl] at h
    subst h
    simp [valB, sg] at h2
  · rw [if_neg hl] at h
    have h4 := of_decide_eq_true h
    have h5 : l = l.dropLast ++ [0] := by
      rw [List.getLast?_eq_some_getLast hl, Option.some.injEq] at h4
      conv => lhs; rw [← List.dropLast_concat_getLast hl, h4]
    have h6 : valB l = valB l.dropLast := by
      conv => lhs; rw [h5]
      rw [valB_snoc, Nat.mul_zero, Nat.add_zero]
    have h7 := digB_len.2 (valB_lt l.dropLast (okB_take (by exact hok) (l.length - 1) |> fun h => by rw [List.dropLast_eq_take]; exact h))
    rw [← h6, List.length_dropLast, h3] at h7
    have : 0 < l.length := List.length_pos_iff.2 hl
    omega
theorem join_good {m : Bool} {l : List Nat} (hok : okB l) (h : badJ m l = false) : joinZ m l = some (sg m (valB l)) ∧ digB (valB l) = l := by
  have htop : topB l := by
    unfold topB
    unfold badJ at h
    by_cases hl : l = []
    · subst hl; simp
    · rw [if_neg hl] at h; exact of_decide_eq_false h
  have hdl := digB_valB l hok htop
  refine ⟨?_, hdl⟩
  unfold joinZ
  rw [if_pos]
  refine ⟨?_, ?_, by rw [hdl]⟩
  · rw [List.all_eq_true]; exact fun d hd => decide_eq_true (hok d hd)
  · unfold badJ at h
    by_cases hl : l = []
    · subst hl
      rw [if_pos rfl] at h
      subst h
      rfl
    · refine sg_neg0 ?_
      rcases hv : valB l with _ | n
      · rw [hv, digB_zero] at hdl; exact absurd hdl.symm hl
      · omega

set_option maxRecDepth 100000 in
set_option maxHeartbeats 4000000 in
theorem pJoin_any (m : Bool) (v : Value) (l : List Nat) (hl : l.length ≤ 100) (hu : ∀ j, j < l.length → l.getD j 0 < 4294967296) (w : World) (h : U32s w v l) :
    Calls Tryd.prog 13 #[.bool m, v] w (OptPost (joinZ m l) 1 w) := by
  obtain ⟨pa, pc, rfl⟩ := h.val
  obtain ⟨n, hn⟩ : ∃ n, n = l.length := ⟨_, rfl⟩
  rw [← hn] at h hl ⊢
  obtain ⟨W, hW⟩ : ∃ W, W = w.alloc (.cells #[.bool false, .slice none 0 0] 25) := ⟨_, rfl⟩
  have q0 : W.heap[w.heap.size]? = some (.cells #[.bool false, .slice none 0 0] 25 (0, 0)) := by rw [hW]; exact heap_alloc_new _ _
  have hz : w.heap.size < W.heap.size := by rw [hW]; simp
  have hBW : Below w.heap.size w W := by rw [hW]; exact (Below.refl _ _).alloc (Nat.le_refl _) _
  have z0 : W.cell? ⟨w.heap.size, 0, none⟩ = some (.bool false) := Lib.cell_of_heap q0 0
  have z1 : W.cell? ⟨w.heap.size, 1, none⟩ = some (.slice none 0 0) := Lib.cell_of_heap q0 1
  have f0 : W.frozen? ⟨w.heap.size, 0, none⟩ = false := Lib.frozen_of_heap q0 0
  have f1 : W.frozen? ⟨w.heap.size, 1, none⟩ = false := Lib.frozen_of_heap q0 1
  have HU := Lib.hid (h.below hBW)
  have HB := Lib.hid hBW
  have Q0 := Lib.hid q0
  have HW := Lib.hid hW
  have HN := Lib.hid hn
  have HU32 := Lib.hid hu
  have HU0 := Lib.hid h
  clear h hBW q0 hW hn hu
  by_cases h0 : n = 0
  · subst h0
    have hl0 : l = [] := List.length_eq_zero_iff.1 HN.out.symm
    cases m
    · have HBD : Hid (badJ false l = false) := by show _ = _; rw [hl0]; rfl
      clear hl0
      go_enter Tryd.func13, Tryd.ntmps13
      go_wp2
      rw [← HW.out]
      go_loopw [30] (fun i wr => ∃ k : Nat, k ≤ 0 ∧ i = .int .i64 k ∧ Hid (∀ j, j < k → l.getD j 0 < bigB) ∧ wr = W) (fun i _ => 0 - (intOf i).toNat)
      case atStart => exact ⟨0, by omega, rfl, Lib.hid (fun j hj => by omega), rfl⟩
      case round =>
        obtain ⟨k, hk, rfl, HSM, rfl⟩ := hrel
        have k0 : (0 : Int) ≤ k := Int.natCast_nonneg _
        by_cases hgo : k < 0
        · exact absurd hgo (by omega)
        · have g1 : ¬ (k : Int) < 0 := by omega
          have hok : okB l := fun d hd => by
            obtain ⟨j, hj, rfl⟩ := List.getElem_of_mem hd
            have := HSM.out j (by rw [← HN.out] at hj; omega)
            rw [List.getD_eq_getElem?_getD, List.getElem?_eq_getElem hj, Option.getD_some] at this
            exact this
          obtain ⟨j1, j2⟩ := join_good hok HBD.out
          have CP := pcopied_any (.slice pa 0 pc) l (by rw [← HN.out]; omega) wr HU.out
          have HCP := Lib.hid CP
          have J1 := Lib.hid j1
          have J2 := Lib.hid j2
          clear CP hok j1 j2
          go_wp2_with fail
          refine HCP.out.mono ?_
          rintro e w3 ⟨⟨v3, rfl, hcp⟩, hb3⟩
          have hu3 := hcp.u32s
          rw [← J2.out] at hu3
          have SG := signed_any false (valB l) v3 w3 hu3
          have HSG := Lib.hid SG
          have HB3 := Lib.hid (HB.out.trans (hb3.mono HB.out.size))
          have Q3 := Lib.hid ((hb3.block w.heap.size hz).trans Q0.out)
          have hz3 : w.heap.size < w3.heap.size := by have := hb3.size; omega
          clear SG hu3 hb3 hcp z0 z1 f0 f1
          go_wp2_with fail
          refine HSG.out.mono ?_
          rintro e w4 ⟨⟨v4, rfl, hi4⟩, hb4⟩
          obtain ⟨z, hzz⟩ : ∃ z, z = sg false (valB l) := ⟨_, rfl⟩
          rw [← hzz] at hi4
          have HZ := Lib.hid hzz
          obtain ⟨sv4, rfl, hu4⟩ := hi4
          obtain ⟨s4, c4, rfl⟩ := hu4.val
          obtain ⟨l4, hl4⟩ : ∃ l4, l4 = (digB z.natAbs).length := ⟨_, rfl⟩
          obtain ⟨bb, hbb⟩ : ∃ bb, bb = decide (z < 0) := ⟨_, rfl⟩
          rw [← hl4] at hu4 ⊢
          rw [← hbb]
          have HBB := Lib.hid hbb
          have HB4 := Lib.hid (HB3.out.trans (hb4.mono HB3.out.size))
          have q4 := (hb4.block w.heap.size hz3).trans Q3.out
          have z0 : w4.cell? ⟨w.heap.size, 0, none⟩ = some (.bool false) := Lib.cell_of_heap q4 0
          have z1 : w4.cell? ⟨w.heap.size, 1, none⟩ = some (.slice none 0 0) := Lib.cell_of_heap q4 1
          have f0 : w4.frozen? ⟨w.heap.size, 0, none⟩ = false := Lib.frozen_of_heap q4 0
          have f1 : w4.frozen? ⟨w.heap.size, 1, none⟩ = false := Lib.frozen_of_heap q4 1
          have HR := Lib.hid (hu4.set2 q4 (.bool bb) (.slice s4 l4 c4))
          clear hb4 q4 hu4 hbb hl4 hzz
          go_wp2
          refine bodyPost_ret (v := .tuple #[.agg #[.bool bb, .slice s4 l4 c4], .int .i64 0]) ?_ ?_ ?_
          · simp [results, Tryd.results13, go_sem, z0, z1]
          · rfl
          · refine ⟨⟨.agg #[.bool bb, .slice s4 l4 c4], by rw [J1.out]; rfl, .slice s4 l4 c4, ?_, ?_⟩, ?_⟩
            · rw [J1.out, Option.getD_some, ← HZ.out, HBB.out]
            · rw [J1.out, Option.getD_some, ← HZ.out]; exact HR.out
            · exact (HB4.out.setCell (p := ⟨w.heap.size, 0, none⟩) (Nat.le_refl _) _).setCell (p := ⟨w.heap.size, 1, none⟩) (Nat.le_refl _) _
    · have HJ := Lib.hid (join_bad (m := true) (l := l) (by rw [hl0]; rfl))
      clear hl0
      go_enter Tryd.func13, Tryd.ntmps13
      go_wp2
      refine bodyPost_ret (v := .tuple #[.agg #[.bool false, .slice none 0 0], .int .i64 1]) ?_ ?_ ?_
      · simp [results, Tryd.results13, go_sem]
      · rfl
      · exact ⟨⟨_, by rw [HJ.out]; rfl, by rw [HJ.out]; exact zero_is _⟩, by rw [← HW.out]; exact HB.out⟩
  · obtain ⟨t, ht⟩ : ∃ t, n = t + 1 := ⟨n - 1, by omega⟩
    have hti : (n : Int) - 1 = (t : Int) := by omega
    have t0 : (0 : Int) ≤ t := Int.natCast_nonneg _
    have tn : (t : Int) < n := by omega
    have n1 : (0 : Int) < n := by omega
    have n2 : ((n : Int) == 0) = false := by rw [beq_eq_false_iff_ne]; omega
    obtain ⟨bt, ot, rfl, hbt, hct⟩ := HU0.out.at (show t < l.length by rw [← HN.out]; omega)
    obtain ⟨d, hd⟩ : ∃ d, d = l.getD t 0 := ⟨_, rfl⟩
    rw [← hd] at hct
    unfold u32V at hct
    have hbadj : badJ m l = decide (d = 0) := by
      unfold badJ
      rw [if_neg (fun e => by rw [e] at HN; have := HN.out; simp at this; omega), List.getLast?_eq_getElem?, show l.length - 1 = t by rw [← HN.out]; omega, List.getElem?_eq_getElem (by rw [← HN.out]; omega), hd, List.getD_eq_getElem?_getD, List.getElem?_eq_getElem (by rw [← HN.out]; omega)]
      simp
    by_cases hd0 : d = 0
    · have e0 : ((d : Int) == 0) = true := by rw [hd0]; rfl
      have HJ := Lib.hid (join_bad (m := m) (l := l) (by rw [hbadj, hd0]; rfl))
      clear hd hbadj hd0 ht h0
      go_enter Tryd.func13, Tryd.ntmps13
      go_wp2
      refine bodyPost_ret (v := .tuple #[.agg #[.bool false, .slice none 0 0], .int .i64 1]) ?_ ?_ ?_
      · simp [results, Tryd.results13, go_sem]
      · rfl
      · exact ⟨⟨_, by rw [HJ.out]; rfl, by rw [HJ.out]; exact zero_is _⟩, by rw [← HW.out]; exact HB.out⟩
    · have e0 : ((d : Int) == 0) = false := by rw [beq_eq_false_iff_ne]; omega
      have HBD : Hid (badJ m l = false) := by show _ = _; rw [hbadj, decide_eq_false hd0]
      clear hd hbadj hd0 ht h0
      go_enter Tryd.func13, Tryd.ntmps13
      go_wp2
      rw [← HW.out]
      go_loopw [30] (fun i wr => ∃ k : Nat, k ≤ n ∧ i = .int .i64 k ∧ Hid (∀ j, j < k → l.getD j 0 < bigB) ∧ wr = W) (fun i _ => n - (intOf i).toNat)
      case atStart => exact ⟨0, by omega, rfl, Lib.hid (fun j hj => by omega), rfl⟩
      case round =>
        obtain ⟨k, hk, rfl, HSM, rfl⟩ := hrel
        have k0 : (0 : Int) ≤ k := Int.natCast_nonneg _
        by_cases hgo : k < n
        · have g1 : (k : Int) < n := by omega
          obtain ⟨b2, o2, hp2, hb2, hc2⟩ := HU.out.at (show k < l.length by rw [← HN.out]; exact hgo)
          cases hp2
          obtain ⟨x, hx⟩ : ∃ x, x = l.getD k 0 := ⟨_, rfl⟩
          rw [← hx] at hc2
          unfold u32V at hc2
          have x0 : (0 : Int) ≤ x := Int.natCast_nonneg _
          have xI : (x : Int) < 4294967296 := by have := HU32.out k (by rw [← HN.out]; exact hgo); omega
          by_cases hbig : x < 1000000000
          · have g2 : ¬ (1000000000 : Int) ≤ x := by omega
            have HS2 : Hid (∀ j, j < k + 1 → l.getD j 0 < bigB) := fun j hj => by
              by_cases e : j = k
              · subst e; rw [← hx, bigB_eq]; exact hbig
              · exact HSM.out j (by omega)
            clear hx hbig
            go_wp2
            go_roundw
            case rel => exact ⟨k + 1, by omega, by go_num, HS2, trivial⟩
            case measure => simp [intOf]; omega
          · have g2 : (1000000000 : Int) ≤ x := by omega
            have HJ := Lib.hid (join_big (m := m) (l := l) (k := k) (by rw [← HN.out]; exact hgo) (by rw [← hx, bigB_eq]; exact hbig))
            clear hx hbig
            go_wp2
            refine bodyPost_ret (v := .tuple #[.agg #[.bool false, .slice none 0 0], .int .i64 1]) ?_ ?_ ?_
            · simp [results, Tryd.results13, go_sem, z0, z1]
            · rfl
            · exact ⟨⟨_, by rw [HJ.out]; rfl, by rw [HJ.out]; exact zero_is _⟩, (HB.out.setCell (p := ⟨w.heap.size, 0, none⟩) (Nat.le_refl _) _).setCell (p := ⟨w.heap.size, 1, none⟩) (Nat.le_refl _) _⟩
        · have g1 : ¬ (k : Int) < n := by omega
          have hok : okB l := fun d hd => by
            obtain ⟨j, hj, rfl⟩ := List.getElem_of_mem hd
            have := HSM.out j (by rw [← HN.out] at hj; omega)
            rw [List.getD_eq_getElem?_getD, List.getElem?_eq_getElem hj, Option.getD_some] at this
            exact this
          obtain ⟨j1, j2⟩ := join_good hok HBD.out
          have CP := pcopied_any (.slice (some ⟨bt, ot, none⟩) n pc) l (by rw [← HN.out]; omega) wr HU.out
          have HCP := Lib.hid CP
          have J1 := Lib.hid j1
          have J2 := Lib.hid j2
          clear CP hok j1 j2
          go_wp2_with fail
          refine HCP.out.mono ?_
          rintro e w3 ⟨⟨v3, rfl, hcp⟩, hb3⟩
          have hu3 := hcp.u32s
          rw [← J2.out] at hu3
          have SG := signed_any m (valB l) v3 w3 hu3
          have HSG := Lib.hid SG
          have HB3 := Lib.hid (HB.out.trans (hb3.mono HB.out.size))
          have Q3 := Lib.hid ((hb3.block w.heap.size hz).trans Q0.out)
          have hz3 : w.heap.size < w3.heap.size := by have := hb3.size; omega
          clear SG hu3 hb3 hcp z0 z1 f0 f1
          go_wp2_with fail
          refine HSG.out.mono ?_
          rintro e w4 ⟨⟨v4, rfl, hi4⟩, hb4⟩
          obtain ⟨z, hzz⟩ : ∃ z, z = sg m (valB l) := ⟨_, rfl⟩
          rw [← hzz] at hi4
          have HZ := Lib.hid hzz
          obtain ⟨sv4, rfl, hu4⟩ := hi4
          obtain ⟨s4, c4, rfl⟩ := hu4.val
          obtain ⟨l4, hl4⟩ : ∃ l4, l4 = (digB z.natAbs).length := ⟨_, rfl⟩
          obtain ⟨bb, hbb⟩ : ∃ bb, bb = decide (z < 0) := ⟨_, rfl⟩
          rw [← hl4] at hu4 ⊢
          rw [← hbb]
          have HBB := Lib.hid hbb
          have HB4 := Lib.hid (HB3.out.trans (hb4.mono HB3.out.size))
          have q4 := (hb4.block w.heap.size hz3).trans Q3.out
          have z0 : w4.cell? ⟨w.heap.size, 0, none⟩ = some (.bool false) := Lib.cell_of_heap q4 0
          have z1 : w4.cell? ⟨w.heap.size, 1, none⟩ = some (.slice none 0 0) := Lib.cell_of_heap q4 1
          have f0 : w4.frozen? ⟨w.heap.size, 0, none⟩ = false := Lib.frozen_of_heap q4 0
          have f1 : w4.frozen? ⟨w.heap.size, 1, none⟩ = false := Lib.frozen_of_heap q4 1
          have HR := Lib.hid (hu4.set2 q4 (.bool bb) (.slice s4 l4 c4))
          clear hb4 q4 hu4 hbb hl4 hzz
          go_wp2
          refine bodyPost_ret (v := .tuple #[.agg #[.bool bb, .slice s4 l4 c4], .int .i64 0]) ?_ ?_ ?_
          · simp [results, Tryd.results13, go_sem, z0, z1]
          · rfl
          · refine ⟨⟨.agg #[.bool bb, .slice s4 l4 c4], by rw [J1.out]; rfl, .slice s4 l4 c4, ?_, ?_⟩, ?_⟩
            · rw [J1.out, Option.getD_some, ← HZ.out, HBB.out]
            · rw [J1.out, Option.getD_some, ← HZ.out]; exact HR.out
            · exact (HB4.out.setCell (p := ⟨w.heap.size, 0, none⟩) (Nat.le_refl _) _).setCell (p := ⟨w.heap.size, 1, none⟩) (Nat.le_refl _) _
end Go.Proofs.YtibhfcnjmilepaaDoor
