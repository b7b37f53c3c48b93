import Derived.Test.YtibhfcnjmilepaaDoorNumAN
namespace Go.Proofs.YtibhfcnjmilepaaDoor
open Go.RowKit

theorem sg_addZ {x y : Int} (h : decide (x < 0) = decide (y < 0)) : sg (decide (x < 0)) (x.natAbs + y.natAbs) = x + y := by
  unfold sg
  by_cases hx : x < 0
  · have hy : y < 0 := by rw [decide_eq_true hx] at h; exact of_decide_eq_true h.symm
    rw [decide_eq_true hx, if_pos rfl]; omega
  · have hy : ¬ y < 0 := by rw [decide_eq_false hx] at h; exact of_decide_eq_false h.symm
    rw [decide_eq_false hx, if_neg (by simp)]; omega
theorem sg_difL {x y : Int} (h : decide (x < 0) ≠ decide (y < 0)) (hl : x.natAbs < y.natAbs) : sg (decide (y < 0)) (y.natAbs - x.natAbs) = x + y := by
  unfold sg
  by_cases hy : y < 0
  · have hx : ¬ x < 0 := fun hx => h (by rw [decide_eq_true hx, decide_eq_true hy])
    rw [decide_eq_true hy, if_pos rfl]; omega
  · have hx : x < 0 := Classical.byContradiction fun hx => h (by rw [decide_eq_false hx, decide_eq_false hy])
    rw [decide_eq_false hy, if_neg (by simp)]; omega
theorem sg_difG {x y : Int} (h : decide (x < 0) ≠ decide (y < 0)) (hl : ¬ x.natAbs < y.natAbs) : sg (decide (x < 0)) (x.natAbs - y.natAbs) = x + y ∧ 0 < x.natAbs := by
  unfold sg
  by_cases hy : y < 0
  · have hx : ¬ x < 0 := fun hx => h (by rw [decide_eq_true hx, decide_eq_true hy])
    rw [decide_eq_false hx, if_neg (by simp)]; omega
  · have hx : x < 0 := Classical.byContradiction fun hx => h (by rw [decide_eq_false hx, decide_eq_false hy])
    rw [decide_eq_true hx, if_pos rfl]; omega
theorem sg_mulZ (x y : Int) : sg (decide (x < 0) != decide (y < 0)) (x.natAbs * y.natAbs) = x * y := by
  rw [sg_mul, sg_int, sg_int]
theorem sg_quoZ (x y : Int) : sg (decide (x < 0) != decide (y < 0)) (x.natAbs / y.natAbs) = x.tdiv y := by
  rw [sg_quo, sg_int, sg_int]
theorem sg_remZ (x y : Int) : sg (decide (x < 0)) (x.natAbs % y.natAbs) = x.tmod y := by
  rw [sg_rem (decide (x < 0)) (decide (y < 0)), sg_int, sg_int]
theorem sg_negZ (y : Int) : sg (!decide (y < 0)) y.natAbs = -y := by
  unfold sg
  by_cases h : y < 0
  · rw [decide_eq_true h, Bool.not_true, if_neg (by simp)]; omega
  · rw [decide_eq_false h, Bool.not_false, if_pos rfl]; omega

set_option maxRecDepth 100000 in
set_option maxHeartbeats 8000000 in
theorem pAdd_same_ff (x y : Int) (hx : (digB x.natAbs).length ≤ 10000) (hy : (digB y.natAbs).length ≤ 10000) (hM : decide (x < 0) = false) (hC : decide (y < 0) = false) (va vb : Value) (w : World) (ha : IntIs w va x) (hb : IntIs w vb y) :
    Calls Tryd.prog 25 #[va, vb] w (IntPost (x + y) w) := by
  obtain ⟨sa, rfl, hua⟩ := ha
  obtain ⟨sb, rfl, hub⟩ := hb
  obtain ⟨pa, ca, rfl⟩ := hua.val
  obtain ⟨pb, cb, rfl⟩ := hub.val
  obtain ⟨na, hna⟩ : ∃ na, na = (digB x.natAbs).length := ⟨_, rfl⟩
  obtain ⟨nb, hnb⟩ : ∃ nb, nb = (digB y.natAbs).length := ⟨_, rfl⟩
  rw [← hna] at hua ⊢
  rw [← hnb] at hub ⊢
  rw [hM, hC]
  obtain ⟨W, hW⟩ : ∃ W, W = ((w.alloc (.cells #[.bool false, .slice pa na ca] 25)).alloc (.cells #[.bool false, .slice pb nb cb] 25)).alloc (.cells #[.bool false, .slice none 0 0] 25) := ⟨_, rfl⟩
  have q0 : W.heap[w.heap.size]? = some (.cells #[.bool false, .slice pa na ca] 25 (0, 0)) := by rw [hW]; exact alloc_past (alloc_past (alloc_at (by simp)) (by simp)) (by simp; omega)
  have q1 : W.heap[w.heap.size + 1]? = some (.cells #[.bool false, .slice pb nb cb] 25 (0, 0)) := by rw [hW]; exact alloc_past (alloc_at (by simp)) (by simp)
  have q2 : W.heap[w.heap.size + 1 + 1]? = some (.cells #[.bool false, .slice none 0 0] 25 (0, 0)) := by rw [hW]; exact alloc_at (by simp)
  have c0 : W.cell? ⟨w.heap.size, 0, none⟩ = some (.bool false) := Lib.cell_of_heap q0 0
  have c1 : W.cell? ⟨w.heap.size, 1, none⟩ = some (.slice pa na ca) := Lib.cell_of_heap q0 1
  have c2 : W.cell? ⟨w.heap.size + 1, 0, none⟩ = some (.bool false) := Lib.cell_of_heap q1 0
  have c3 : W.cell? ⟨w.heap.size + 1, 1, none⟩ = some (.slice pb nb cb) := Lib.cell_of_heap q1 1
  have hz : w.heap.size + 1 + 1 < W.heap.size := by rw [hW]; simp
  have hBel : Below w.heap.size w W := by rw [hW]; exact (((Below.refl _ _).alloc (Nat.le_refl _) _).alloc (by simp) _).alloc (by simp; omega) _
  have HUA := Lib.hid (hua.below hBel)
  have HUB := Lib.hid (hub.below hBel)
  have HB := Lib.hid hBel
  have Q2 := Lib.hid q2
  have HW := Lib.hid hW
  have HMM := Lib.hid hM
  have HCC := Lib.hid hC
  obtain ⟨z, hzz⟩ : ∃ z, z = x + y := ⟨_, rfl⟩
  rw [← hzz]
  have DG := psum_any x.natAbs y.natAbs hx hy (.slice pa na ca) (.slice pb nb cb) W.drew (HUA.out.below (Below.refl _ _).drew) (HUB.out.below (Below.refl _ _).drew)
  have hsg : sg false (x.natAbs + y.natAbs) = z := by rw [hzz, ← sg_addZ (hM.trans hC.symm), hM]
  have HSG := Lib.hid hsg
  have HD0 := Lib.hid DG
  clear DG hsg hzz 
  clear hua hub hW q0 q1 q2 hna hnb hM hC hBel
  go_enter Tryd.func25, Tryd.ntmps25
  have HD := HD0
  go_wp2
  rw [← HW.out]
  go_region_held3 (fun w' => w'.cell? ⟨w.heap.size, 0, none⟩ = some (.bool false) ∧ w'.cell? ⟨w.heap.size, 1, none⟩ = some (.slice pa na ca) ∧ w'.cell? ⟨w.heap.size + 1, 0, none⟩ = some (.bool false) ∧ w'.cell? ⟨w.heap.size + 1, 1, none⟩ = some (.slice pb nb cb))
    (first | exact ⟨c0, c1, c2, c3⟩ | exact ⟨a0, a1, a2, a3⟩ | exact ⟨(set2_keep (show w.heap.size ≠ w.heap.size + 1 + 1 by omega)).trans a0, (set2_keep (show w.heap.size ≠ w.heap.size + 1 + 1 by omega)).trans a1, (set2_keep (show w.heap.size + 1 ≠ w.heap.size + 1 + 1 by omega)).trans a2, (set2_keep (show w.heap.size + 1 ≠ w.heap.size + 1 + 1 by omega)).trans a3⟩)
    (first
      | ((go_at_call 43; refine HD.out.mono ?_; rintro e w5 ⟨⟨v5, rfl, hu5⟩, hb5⟩
          have a0 : w5.cell? ⟨w.heap.size, 0, none⟩ = some (.bool false) := (hb5.cell (p := ⟨w.heap.size, 0, none⟩) (show w.heap.size < W.heap.size by omega)).trans c0
          have a1 : w5.cell? ⟨w.heap.size, 1, none⟩ = some (.slice pa na ca) := (hb5.cell (p := ⟨w.heap.size, 1, none⟩) (show w.heap.size < W.heap.size by omega)).trans c1
          have a2 : w5.cell? ⟨w.heap.size + 1, 0, none⟩ = some (.bool false) := (hb5.cell (p := ⟨w.heap.size + 1, 0, none⟩) (show w.heap.size + 1 < W.heap.size by omega)).trans c2
          have a3 : w5.cell? ⟨w.heap.size + 1, 1, none⟩ = some (.slice pb nb cb) := (hb5.cell (p := ⟨w.heap.size + 1, 1, none⟩) (show w.heap.size + 1 < W.heap.size by omega)).trans c3
          have hz5 : W.heap.size ≤ w5.heap.size := hb5.size
          have HB5 := Lib.hid (HB.out.drew.trans (hb5.mono (show w.heap.size ≤ W.heap.size by omega)))
          have Q5 := Lib.hid ((hb5.block (w.heap.size + 1 + 1) hz).trans Q2.out)
          have SG := signed_any false _ v5 w5 hu5
          rw [HSG.out] at SG
          have H2 := Lib.hid SG
          clear hb5 hu5 SG))
      | ((go_at_call 35; refine H2.out.mono ?_; rintro e w6 ⟨⟨v6, rfl, hi6⟩, hb6⟩
          obtain ⟨sv6, rfl, hu6⟩ := hi6
          obtain ⟨s6, c6, rfl⟩ := hu6.val
          obtain ⟨l6, hl6⟩ : ∃ l6, l6 = (digB (z : Int).natAbs).length := ⟨_, rfl⟩
          obtain ⟨bb, hbb⟩ : ∃ bb, bb = decide ((z : Int) < 0) := ⟨_, rfl⟩
          rw [← hl6] at hu6 ⊢
          rw [← hbb]
          have HBB := Lib.hid hbb
          have a0 : w6.cell? ⟨w.heap.size, 0, none⟩ = some (.bool false) := (hb6.cell (p := ⟨w.heap.size, 0, none⟩) (show w.heap.size < w5.heap.size by omega)).trans a0
          have a1 : w6.cell? ⟨w.heap.size, 1, none⟩ = some (.slice pa na ca) := (hb6.cell (p := ⟨w.heap.size, 1, none⟩) (show w.heap.size < w5.heap.size by omega)).trans a1
          have a2 : w6.cell? ⟨w.heap.size + 1, 0, none⟩ = some (.bool false) := (hb6.cell (p := ⟨w.heap.size + 1, 0, none⟩) (show w.heap.size + 1 < w5.heap.size by omega)).trans a2
          have a3 : w6.cell? ⟨w.heap.size + 1, 1, none⟩ = some (.slice pb nb cb) := (hb6.cell (p := ⟨w.heap.size + 1, 1, none⟩) (show w.heap.size + 1 < w5.heap.size by omega)).trans a3
          have HB6 := Lib.hid (HB5.out.trans (hb6.mono (show w.heap.size ≤ w5.heap.size by omega)))
          have q6 := (hb6.block (w.heap.size + 1 + 1) (show w.heap.size + 1 + 1 < w5.heap.size by omega)).trans Q5.out
          have z0 : w6.cell? ⟨w.heap.size + 1 + 1, 0, none⟩ = some (.bool false) := Lib.cell_of_heap q6 0
          have z1 : w6.cell? ⟨w.heap.size + 1 + 1, 1, none⟩ = some (.slice none 0 0) := Lib.cell_of_heap q6 1
          have f0 : w6.frozen? ⟨w.heap.size + 1 + 1, 0, none⟩ = false := Lib.frozen_of_heap q6 0
          have f1 : w6.frozen? ⟨w.heap.size + 1 + 1, 1, none⟩ = false := Lib.frozen_of_heap q6 1
          have HR := Lib.hid (hu6.set2 q6 (.bool bb) (.slice s6 l6 c6))
          clear hb6 q6 hu6 hl6 hbb)))
  go_wp2
  refine bodyPost_ret (v := .agg #[.bool bb, .slice s6 l6 c6]) ?_ ?_ ?_
  · simp [results, Tryd.results25, go_sem, z0, z1]
  · rfl
  · refine ⟨⟨.agg #[.bool bb, .slice s6 l6 c6], rfl, .slice s6 l6 c6, ?_, HR.out⟩, ?_⟩
    · rw [HBB.out]
    · exact (HB6.out.setCell (p := ⟨w.heap.size + 1 + 1, 0, none⟩) (show w.heap.size ≤ w.heap.size + 1 + 1 by omega) _).setCell (p := ⟨w.heap.size + 1 + 1, 1, none⟩) (show w.heap.size ≤ w.heap.size + 1 + 1 by omega) _

set_option maxRecDepth 100000 in
set_option maxHeartbeats 8000000 in
theorem pAdd_same_tt (x y : Int) (hx : (digB x.natAbs).length ≤ 10000) (hy : (digB y.natAbs).length ≤ 10000) (hM : decide (x < 0) = true) (hC : decide (y < 0) = true) (va vb : Value) (w : World) (ha : IntIs w va x) (hb : IntIs w vb y) :
    Calls Tryd.prog 25 #[va, vb] w (IntPost (x + y) w) := by
  obtain ⟨sa, rfl, hua⟩ := ha
  obtain ⟨sb, rfl, hub⟩ := hb
  obtain ⟨pa, ca, rfl⟩ := hua.val
  obtain ⟨pb, cb, rfl⟩ := hub.val
  obtain ⟨na, hna⟩ : ∃ na, na = (digB x.natAbs).length := ⟨_, rfl⟩
  obtain ⟨nb, hnb⟩ : ∃ nb, nb = (digB y.natAbs).length := ⟨_, rfl⟩
  rw [← hna] at hua ⊢
  rw [← hnb] at hub ⊢
  rw [hM, hC]
  obtain ⟨W, hW⟩ : ∃ W, W = ((w.alloc (.cells #[.bool true, .slice pa na ca] 25)).alloc (.cells #[.bool true, .slice pb nb cb] 25)).alloc (.cells #[.bool false, .slice none 0 0] 25) := ⟨_, rfl⟩
  have q0 : W.heap[w.heap.size]? = some (.cells #[.bool true, .slice pa na ca] 25 (0, 0)) := by rw [hW]; exact alloc_past (alloc_past (alloc_at (by simp)) (by simp)) (by simp; omega)
  have q1 : W.heap[w.heap.size + 1]? = some (.cells #[.bool true, .slice pb nb cb] 25 (0, 0)) := by rw [hW]; exact alloc_past (alloc_at (by simp)) (by simp)
  have q2 : W.heap[w.heap.size + 1 + 1]? = some (.cells #[.bool false, .slice none 0 0] 25 (0, 0)) := by rw [hW]; exact alloc_at (by simp)
  have c0 : W.cell? ⟨w.heap.size, 0, none⟩ = some (.bool true) := Lib.cell_of_heap q0 0
  have c1 : W.cell? ⟨w.heap.size, 1, none⟩ = some (.slice pa na ca) := Lib.cell_of_heap q0 1
  have c2 : W.cell? ⟨w.heap.size + 1, 0, none⟩ = some (.bool true) := Lib.cell_of_heap q1 0
  have c3 : W.cell? ⟨w.heap.size + 1, 1, none⟩ = some (.slice pb nb cb) := Lib.cell_of_heap q1 1
  have hz : w.heap.size + 1 + 1 < W.heap.size := by rw [hW]; simp
  have hBel : Below w.heap.size w W := by rw [hW]; exact (((Below.refl _ _).alloc (Nat.le_refl _) _).alloc (by simp) _).alloc (by simp; omega) _
  have HUA := Lib.hid (hua.below hBel)
  have HUB := Lib.hid (hub.below hBel)
  have HB := Lib.hid hBel
  have Q2 := Lib.hid q2
  have HW := Lib.hid hW
  have HMM := Lib.hid hM
  have HCC := Lib.hid hC
  obtain ⟨z, hzz⟩ : ∃ z, z = x + y := ⟨_, rfl⟩
  rw [← hzz]
  have DG := psum_any x.natAbs y.natAbs hx hy (.slice pa na ca) (.slice pb nb cb) W.drew (HUA.out.below (Below.refl _ _).drew) (HUB.out.below (Below.refl _ _).drew)
  have hsg : sg true (x.natAbs + y.natAbs) = z := by rw [hzz, ← sg_addZ (hM.trans hC.symm), hM]
  have HSG := Lib.hid hsg
  have HD0 := Lib.hid DG
  clear DG hsg hzz 
  clear hua hub hW q0 q1 q2 hna hnb hM hC hBel
  go_enter Tryd.func25, Tryd.ntmps25
  have HD := HD0
  go_wp2
  rw [← HW.out]
  go_region_held3 (fun w' => w'.cell? ⟨w.heap.size, 0, none⟩ = some (.bool true) ∧ w'.cell? ⟨w.heap.size, 1, none⟩ = some (.slice pa na ca) ∧ w'.cell? ⟨w.heap.size + 1, 0, none⟩ = some (.bool true) ∧ w'.cell? ⟨w.heap.size + 1, 1, none⟩ = some (.slice pb nb cb))
    (first | exact ⟨c0, c1, c2, c3⟩ | exact ⟨a0, a1, a2, a3⟩ | exact ⟨(set2_keep (show w.heap.size ≠ w.heap.size + 1 + 1 by omega)).trans a0, (set2_keep (show w.heap.size ≠ w.heap.size + 1 + 1 by omega)).trans a1, (set2_keep (show w.heap.size + 1 ≠ w.heap.size + 1 + 1 by omega)).trans a2, (set2_keep (show w.heap.size + 1 ≠ w.heap.size + 1 + 1 by omega)).trans a3⟩)
    (first
      | ((go_at_call 43; refine HD.out.mono ?_; rintro e w5 ⟨⟨v5, rfl, hu5⟩, hb5⟩
          have a0 : w5.cell? ⟨w.heap.size, 0, none⟩ = some (.bool true) := (hb5.cell (p := ⟨w.heap.size, 0, none⟩) (show w.heap.size < W.heap.size by omega)).trans c0
          have a1 : w5.cell? ⟨w.heap.size, 1, none⟩ = some (.slice pa na ca) := (hb5.cell (p := ⟨w.heap.size, 1, none⟩) (show w.heap.size < W.heap.size by omega)).trans c1
          have a2 : w5.cell? ⟨w.heap.size + 1, 0, none⟩ = some (.bool true) := (hb5.cell (p := ⟨w.heap.size + 1, 0, none⟩) (show w.heap.size + 1 < W.heap.size by omega)).trans c2
          have a3 : w5.cell? ⟨w.heap.size + 1, 1, none⟩ = some (.slice pb nb cb) := (hb5.cell (p := ⟨w.heap.size + 1, 1, none⟩) (show w.heap.size + 1 < W.heap.size by omega)).trans c3
          have hz5 : W.heap.size ≤ w5.heap.size := hb5.size
          have HB5 := Lib.hid (HB.out.drew.trans (hb5.mono (show w.heap.size ≤ W.heap.size by omega)))
          have Q5 := Lib.hid ((hb5.block (w.heap.size + 1 + 1) hz).trans Q2.out)
          have SG := signed_any true _ v5 w5 hu5
          rw [HSG.out] at SG
          have H2 := Lib.hid SG
          clear hb5 hu5 SG))
      | ((go_at_call 35; refine H2.out.mono ?_; rintro e w6 ⟨⟨v6, rfl, hi6⟩, hb6⟩
          obtain ⟨sv6, rfl, hu6⟩ := hi6
          obtain ⟨s6, c6, rfl⟩ := hu6.val
          obtain ⟨l6, hl6⟩ : ∃ l6, l6 = (digB (z : Int).natAbs).length := ⟨_, rfl⟩
          obtain ⟨bb, hbb⟩ : ∃ bb, bb = decide ((z : Int) < 0) := ⟨_, rfl⟩
          rw [← hl6] at hu6 ⊢
          rw [← hbb]
          have HBB := Lib.hid hbb
          have a0 : w6.cell? ⟨w.heap.size, 0, none⟩ = some (.bool true) := (hb6.cell (p := ⟨w.heap.size, 0, none⟩) (show w.heap.size < w5.heap.size by omega)).trans a0
          have a1 : w6.cell? ⟨w.heap.size, 1, none⟩ = some (.slice pa na ca) := (hb6.cell (p := ⟨w.heap.size, 1, none⟩) (show w.heap.size < w5.heap.size by omega)).trans a1
          have a2 : w6.cell? ⟨w.heap.size + 1, 0, none⟩ = some (.bool true) := (hb6.cell (p := ⟨w.heap.size + 1, 0, none⟩) (show w.heap.size + 1 < w5.heap.size by omega)).trans a2
          have a3 : w6.cell? ⟨w.heap.size + 1, 1, none⟩ = some (.slice pb nb cb) := (hb6.cell (p := ⟨w.heap.size + 1, 1, none⟩) (show w.heap.size + 1 < w5.heap.size by omega)).trans a3
          have HB6 := Lib.hid (HB5.out.trans (hb6.mono (show w.heap.size ≤ w5.heap.size by omega)))
          have q6 := (hb6.block (w.heap.size + 1 + 1) (show w.heap.size + 1 + 1 < w5.heap.size by omega)).trans Q5.out
          have z0 : w6.cell? ⟨w.heap.size + 1 + 1, 0, none⟩ = some (.bool false) := Lib.cell_of_heap q6 0
          have z1 : w6.cell? ⟨w.heap.size + 1 + 1, 1, none⟩ = some (.slice none 0 0) := Lib.cell_of_heap q6 1
          have f0 : w6.frozen? ⟨w.heap.size + 1 + 1, 0, none⟩ = false := Lib.frozen_of_heap q6 0
          have f1 : w6.frozen? ⟨w.heap.size + 1 + 1, 1, none⟩ = false := Lib.frozen_of_heap q6 1
          have HR := Lib.hid (hu6.set2 q6 (.bool bb) (.slice s6 l6 c6))
          clear hb6 q6 hu6 hl6 hbb)))
  go_wp2
  refine bodyPost_ret (v := .agg #[.bool bb, .slice s6 l6 c6]) ?_ ?_ ?_
  · simp [results, Tryd.results25, go_sem, z0, z1]
  · rfl
  · refine ⟨⟨.agg #[.bool bb, .slice s6 l6 c6], rfl, .slice s6 l6 c6, ?_, HR.out⟩, ?_⟩
    · rw [HBB.out]
    · exact (HB6.out.setCell (p := ⟨w.heap.size + 1 + 1, 0, none⟩) (show w.heap.size ≤ w.heap.size + 1 + 1 by omega) _).setCell (p := ⟨w.heap.size + 1 + 1, 1, none⟩) (show w.heap.size ≤ w.heap.size + 1 + 1 by omega) _

set_option maxRecDepth 100000 in
set_option maxHeartbeats 8000000 in
theorem pAdd_lt_tf (x y : Int) (hx : (digB x.natAbs).length ≤ 10000) (hy : (digB y.natAbs).length ≤ 10000) (hM : decide (x < 0) = true) (hC : decide (y < 0) = false) (hl : x.natAbs < y.natAbs) (va vb : Value) (w : World) (ha : IntIs w va x) (hb : IntIs w vb y) :
    Calls Tryd.prog 25 #[va, vb] w (IntPost (x + y) w) := by
  obtain ⟨sa, rfl, hua⟩ := ha
  obtain ⟨sb, rfl, hub⟩ := hb
  obtain ⟨pa, ca, rfl⟩ := hua.val
  obtain ⟨pb, cb, rfl⟩ := hub.val
  obtain ⟨na, hna⟩ : ∃ na, na = (digB x.natAbs).length := ⟨_, rfl⟩
  obtain ⟨nb, hnb⟩ : ∃ nb, nb = (digB y.natAbs).length := ⟨_, rfl⟩
  rw [← hna] at hua ⊢
  rw [← hnb] at hub ⊢
  rw [hM, hC]
  obtain ⟨W, hW⟩ : ∃ W, W = ((w.alloc (.cells #[.bool true, .slice pa na ca] 25)).alloc (.cells #[.bool false, .slice pb nb cb] 25)).alloc (.cells #[.bool false, .slice none 0 0] 25) := ⟨_, rfl⟩
  have q0 : W.heap[w.heap.size]? = some (.cells #[.bool true, .slice pa na ca] 25 (0, 0)) := by rw [hW]; exact alloc_past (alloc_past (alloc_at (by simp)) (by simp)) (by simp; omega)
  have q1 : W.heap[w.heap.size + 1]? = some (.cells #[.bool false, .slice pb nb cb] 25 (0, 0)) := by rw [hW]; exact alloc_past (alloc_at (by simp)) (by simp)
  have q2 : W.heap[w.heap.size + 1 + 1]? = some (.cells #[.bool false, .slice none 0 0] 25 (0, 0)) := by rw [hW]; exact alloc_at (by simp)
  have c0 : W.cell? ⟨w.heap.size, 0, none⟩ = some (.bool true) := Lib.cell_of_heap q0 0
  have c1 : W.cell? ⟨w.heap.size, 1, none⟩ = some (.slice pa na ca) := Lib.cell_of_heap q0 1
  have c2 : W.cell? ⟨w.heap.size + 1, 0, none⟩ = some (.bool false) := Lib.cell_of_heap q1 0
  have c3 : W.cell? ⟨w.heap.size + 1, 1, none⟩ = some (.slice pb nb cb) := Lib.cell_of_heap q1 1
  have hz : w.heap.size + 1 + 1 < W.heap.size := by rw [hW]; simp
  have hBel : Below w.heap.size w W := by rw [hW]; exact (((Below.refl _ _).alloc (Nat.le_refl _) _).alloc (by simp) _).alloc (by simp; omega) _
  have HUA := Lib.hid (hua.below hBel)
  have HUB := Lib.hid (hub.below hBel)
  have HB := Lib.hid hBel
  have Q2 := Lib.hid q2
  have HW := Lib.hid hW
  have HMM := Lib.hid hM
  have HCC := Lib.hid hC
  obtain ⟨z, hzz⟩ : ∃ z, z = x + y := ⟨_, rfl⟩
  rw [← hzz]
  have CM := pcmp_any x.natAbs y.natAbs hx hy (.slice pa na ca) (.slice pb nb cb) W HUA.out HUB.out
  rw [show cmpN x.natAbs y.natAbs = -1 by unfold cmpN; rw [if_pos hl]] at CM
  have HCM := Lib.hid CM
  have DG : ∀ q, Calls Tryd.prog 45 #[.slice pb nb cb, .slice pa na ca] ((W.drewN q).drew) (DigPost (y.natAbs - x.natAbs) ((W.drewN q).drew)) := fun q => pdiff_any y.natAbs x.natAbs hy (by omega) (by omega) _ _ _ ((HUB.out.below (below_drewN (Below.refl _ _) q)).below (Below.refl _ _).drew) ((HUA.out.below (below_drewN (Below.refl _ _) q)).below (Below.refl _ _).drew)
  have hsg : sg false (y.natAbs - x.natAbs) = z := by rw [hzz, ← sg_difL (by rw [hM, hC]; decide) hl, hC]
  have HSG := Lib.hid hsg
  have HD0 := Lib.hid DG
  clear DG hsg hzz CM hl
  clear hua hub hW q0 q1 q2 hna hnb hM hC hBel
  go_enter Tryd.func25, Tryd.ntmps25
  go_wp2_with fail
  rw [← HW.out]
  refine HCM.out.mono ?_
  rintro e w1 ⟨rfl, q, rfl⟩
  have HD := Lib.hid (HD0.out q)
  have c0' : (W.drewN q).cell? ⟨w.heap.size, 0, none⟩ = some (.bool true) := c0
  have c1' : (W.drewN q).cell? ⟨w.heap.size, 1, none⟩ = some (.slice pa na ca) := c1
  have c2' : (W.drewN q).cell? ⟨w.heap.size + 1, 0, none⟩ = some (.bool false) := c2
  have c3' : (W.drewN q).cell? ⟨w.heap.size + 1, 1, none⟩ = some (.slice pb nb cb) := c3
  have HBq := Lib.hid (below_drewN HB.out q)
  have Q2q : Hid ((W.drewN q).heap[w.heap.size + 1 + 1]? = some (.cells #[.bool false, .slice none 0 0] 25 (0, 0))) := Q2.out
  have hzq : w.heap.size + 1 + 1 < (W.drewN q).heap.size := hz
  clear c0 c1 c2 c3 HW HB Q2 hz HUA HUB HCM HD0
  obtain ⟨W1, hW1⟩ : ∃ W1, W1 = W.drewN q := ⟨_, rfl⟩
  rw [← hW1] at HD c0' c1' c2' c3' HBq Q2q hzq ⊢
  clear hW1
  go_wp2
  go_region_held3 (fun w' => w'.cell? ⟨w.heap.size, 0, none⟩ = some (.bool true) ∧ w'.cell? ⟨w.heap.size, 1, none⟩ = some (.slice pa na ca) ∧ w'.cell? ⟨w.heap.size + 1, 0, none⟩ = some (.bool false) ∧ w'.cell? ⟨w.heap.size + 1, 1, none⟩ = some (.slice pb nb cb))
    (first | exact ⟨c0', c1', c2', c3'⟩ | exact ⟨a0, a1, a2, a3⟩ | exact ⟨(set2_keep (show w.heap.size ≠ w.heap.size + 1 + 1 by omega)).trans a0, (set2_keep (show w.heap.size ≠ w.heap.size + 1 + 1 by omega)).trans a1, (set2_keep (show w.heap.size + 1 ≠ w.heap.size + 1 + 1 by omega)).trans a2, (set2_keep (show w.heap.size + 1 ≠ w.heap.size + 1 + 1 by omega)).trans a3⟩)
    (first
      | ((go_at_call 45; refine HD.out.mono ?_; rintro e w5 ⟨⟨v5, rfl, hu5⟩, hb5⟩
          have a0 : w5.cell? ⟨w.heap.size, 0, none⟩ = some (.bool true) := (hb5.cell (p := ⟨w.heap.size, 0, none⟩) (show w.heap.size < W1.heap.size by omega)).trans c0'
          have a1 : w5.cell? ⟨w.heap.size, 1, none⟩ = some (.slice pa na ca) := (hb5.cell (p := ⟨w.heap.size, 1, none⟩) (show w.heap.size < W1.heap.size by omega)).trans c1'
          have a2 : w5.cell? ⟨w.heap.size + 1, 0, none⟩ = some (.bool false) := (hb5.cell (p := ⟨w.heap.size + 1, 0, none⟩) (show w.heap.size + 1 < W1.heap.size by omega)).trans c2'
          have a3 : w5.cell? ⟨w.heap.size + 1, 1, none⟩ = some (.slice pb nb cb) := (hb5.cell (p := ⟨w.heap.size + 1, 1, none⟩) (show w.heap.size + 1 < W1.heap.size by omega)).trans c3'
          have hz5 : W1.heap.size ≤ w5.heap.size := hb5.size
          have HB5 := Lib.hid (HBq.out.drew.trans (hb5.mono (show w.heap.size ≤ W1.heap.size by omega)))
          have Q5 := Lib.hid ((hb5.block (w.heap.size + 1 + 1) hzq).trans Q2q.out)
          have SG := signed_any false _ v5 w5 hu5
          rw [HSG.out] at SG
          have H2 := Lib.hid SG
          clear hb5 hu5 SG))
      | ((go_at_call 35; refine H2.out.mono ?_; rintro e w6 ⟨⟨v6, rfl, hi6⟩, hb6⟩
          obtain ⟨sv6, rfl, hu6⟩ := hi6
          obtain ⟨s6, c6, rfl⟩ := hu6.val
          obtain ⟨l6, hl6⟩ : ∃ l6, l6 = (digB (z : Int).natAbs).length := ⟨_, rfl⟩
          obtain ⟨bb, hbb⟩ : ∃ bb, bb = decide ((z : Int) < 0) := ⟨_, rfl⟩
          rw [← hl6] at hu6 ⊢
          rw [← hbb]
          have HBB := Lib.hid hbb
          have a0 : w6.cell? ⟨w.heap.size, 0, none⟩ = some (.bool true) := (hb6.cell (p := ⟨w.heap.size, 0, none⟩) (show w.heap.size < w5.heap.size by omega)).trans a0
          have a1 : w6.cell? ⟨w.heap.size, 1, none⟩ = some (.slice pa na ca) := (hb6.cell (p := ⟨w.heap.size, 1, none⟩) (show w.heap.size < w5.heap.size by omega)).trans a1
          have a2 : w6.cell? ⟨w.heap.size + 1, 0, none⟩ = some (.bool false) := (hb6.cell (p := ⟨w.heap.size + 1, 0, none⟩) (show w.heap.size + 1 < w5.heap.size by omega)).trans a2
          have a3 : w6.cell? ⟨w.heap.size + 1, 1, none⟩ = some (.slice pb nb cb) := (hb6.cell (p := ⟨w.heap.size + 1, 1, none⟩) (show w.heap.size + 1 < w5.heap.size by omega)).trans a3
          have HB6 := Lib.hid (HB5.out.trans (hb6.mono (show w.heap.size ≤ w5.heap.size by omega)))
          have q6 := (hb6.block (w.heap.size + 1 + 1) (show w.heap.size + 1 + 1 < w5.heap.size by omega)).trans Q5.out
          have z0 : w6.cell? ⟨w.heap.size + 1 + 1, 0, none⟩ = some (.bool false) := Lib.cell_of_heap q6 0
          have z1 : w6.cell? ⟨w.heap.size + 1 + 1, 1, none⟩ = some (.slice none 0 0) := Lib.cell_of_heap q6 1
          have f0 : w6.frozen? ⟨w.heap.size + 1 + 1, 0, none⟩ = false := Lib.frozen_of_heap q6 0
          have f1 : w6.frozen? ⟨w.heap.size + 1 + 1, 1, none⟩ = false := Lib.frozen_of_heap q6 1
          have HR := Lib.hid (hu6.set2 q6 (.bool bb) (.slice s6 l6 c6))
          clear hb6 q6 hu6 hl6 hbb)))
  go_wp2
  refine bodyPost_ret (v := .agg #[.bool bb, .slice s6 l6 c6]) ?_ ?_ ?_
  · simp [results, Tryd.results25, go_sem, z0, z1]
  · rfl
  · refine ⟨⟨.agg #[.bool bb, .slice s6 l6 c6], rfl, .slice s6 l6 c6, ?_, HR.out⟩, ?_⟩
    · rw [HBB.out]
    · exact (HB6.out.setCell (p := ⟨w.heap.size + 1 + 1, 0, none⟩) (show w.heap.size ≤ w.heap.size + 1 + 1 by omega) _).setCell (p := ⟨w.heap.size + 1 + 1, 1, none⟩) (show w.heap.size ≤ w.heap.size + 1 + 1 by omega) _

set_option maxRecDepth 100000 in
set_option maxHeartbeats 8000000 in
theorem pAdd_ge_tf (x y : Int) (hx : (digB x.natAbs).length ≤ 10000) (hy : (digB y.natAbs).length ≤ 10000) (hM : decide (x < 0) = true) (hC : decide (y < 0) = false) (hl : ¬ x.natAbs < y.natAbs) (va vb : Value) (w : World) (ha : IntIs w va x) (hb : IntIs w vb y) :
    Calls Tryd.prog 25 #[va, vb] w (IntPost (x + y) w) := by
  obtain ⟨sa, rfl, hua⟩ := ha
  obtain ⟨sb, rfl, hub⟩ := hb
  obtain ⟨pa, ca, rfl⟩ := hua.val
  obtain ⟨pb, cb, rfl⟩ := hub.val
  obtain ⟨na, hna⟩ : ∃ na, na = (digB x.natAbs).length := ⟨_, rfl⟩
  obtain ⟨nb, hnb⟩ : ∃ nb, nb = (digB y.natAbs).length := ⟨_, rfl⟩
  rw [← hna] at hua ⊢
  rw [← hnb] at hub ⊢
  rw [hM, hC]
  obtain ⟨W, hW⟩ : ∃ W, W = ((w.alloc (.cells #[.bool true, .slice pa na ca] 25)).alloc (.cells #[.bool false, .slice pb nb cb] 25)).alloc (.cells #[.bool false, .slice none 0 0] 25) := ⟨_, rfl⟩
  have q0 : W.heap[w.heap.size]? = some (.cells #[.bool true, .slice pa na ca] 25 (0, 0)) := by rw [hW]; exact alloc_past (alloc_past (alloc_at (by simp)) (by simp)) (by simp; omega)
  have q1 : W.heap[w.heap.size + 1]? = some (.cells #[.bool false, .slice pb nb cb] 25 (0, 0)) := by rw [hW]; exact alloc_past (alloc_at (by simp)) (by simp)
  have q2 : W.heap[w.heap.size + 1 + 1]? = some (.cells #[.bool false, .slice none 0 0] 25 (0, 0)) := by rw [hW]; exact alloc_at (by simp)
  have c0 : W.cell? ⟨w.heap.size, 0, none⟩ = some (.bool true) := Lib.cell_of_heap q0 0
  have c1 : W.cell? ⟨w.heap.size, 1, none⟩ = some (.slice pa na ca) := Lib.cell_of_heap q0 1
  have c2 : W.cell? ⟨w.heap.size + 1, 0, none⟩ = some (.bool false) := Lib.cell_of_heap q1 0
  have c3 : W.cell? ⟨w.heap.size + 1, 1, none⟩ = some (.slice pb nb cb) := Lib.cell_of_heap q1 1
  have hz : w.heap.size + 1 + 1 < W.heap.size := by rw [hW]; simp
  have hBel : Below w.heap.size w W := by rw [hW]; exact (((Below.refl _ _).alloc (Nat.le_refl _) _).alloc (by simp) _).alloc (by simp; omega) _
  have HUA := Lib.hid (hua.below hBel)
  have HUB := Lib.hid (hub.below hBel)
  have HB := Lib.hid hBel
  have Q2 := Lib.hid q2
  have HW := Lib.hid hW
  have HMM := Lib.hid hM
  have HCC := Lib.hid hC
  obtain ⟨z, hzz⟩ : ∃ z, z = x + y := ⟨_, rfl⟩
  rw [← hzz]
  have hcz : (cmpN x.natAbs y.natAbs < 0) = False := by rw [cmp_neg]; exact eq_false hl
  have CM := pcmp_any x.natAbs y.natAbs hx hy (.slice pa na ca) (.slice pb nb cb) W HUA.out HUB.out
  obtain ⟨cz, hcc⟩ : ∃ cz, cz = cmpN x.natAbs y.natAbs := ⟨_, rfl⟩
  rw [← hcc] at CM hcz
  have hcn : ¬ cz < 0 := by rw [hcz]; exact id
  have HCM := Lib.hid CM
  have DG : ∀ q, Calls Tryd.prog 45 #[.slice pa na ca, .slice pb nb cb] ((W.drewN q).drew) (DigPost (x.natAbs - y.natAbs) ((W.drewN q).drew)) := fun q => pdiff_any x.natAbs y.natAbs hx (sg_difG (by rw [hM, hC]; decide) hl).2 (by omega) _ _ _ ((HUA.out.below (below_drewN (Below.refl _ _) q)).below (Below.refl _ _).drew) ((HUB.out.below (below_drewN (Below.refl _ _) q)).below (Below.refl _ _).drew)
  have hsg : sg true (x.natAbs - y.natAbs) = z := by rw [hzz, ← (sg_difG (by rw [hM, hC]; decide) hl).1, hM]
  have HSG := Lib.hid hsg
  have HD0 := Lib.hid DG
  clear DG hsg hzz CM hl hcc hcz
  clear hua hub hW q0 q1 q2 hna hnb hM hC hBel
  go_enter Tryd.func25, Tryd.ntmps25
  go_wp2_with fail
  rw [← HW.out]
  refine HCM.out.mono ?_
  rintro e w1 ⟨rfl, q, rfl⟩
  have HD := Lib.hid (HD0.out q)
  have c0' : (W.drewN q).cell? ⟨w.heap.size, 0, none⟩ = some (.bool true) := c0
  have c1' : (W.drewN q).cell? ⟨w.heap.size, 1, none⟩ = some (.slice pa na ca) := c1
  have c2' : (W.drewN q).cell? ⟨w.heap.size + 1, 0, none⟩ = some (.bool false) := c2
  have c3' : (W.drewN q).cell? ⟨w.heap.size + 1, 1, none⟩ = some (.slice pb nb cb) := c3
  have HBq := Lib.hid (below_drewN HB.out q)
  have Q2q : Hid ((W.drewN q).heap[w.heap.size + 1 + 1]? = some (.cells #[.bool false, .slice none 0 0] 25 (0, 0))) := Q2.out
  have hzq : w.heap.size + 1 + 1 < (W.drewN q).heap.size := hz
  clear c0 c1 c2 c3 HW HB Q2 hz HUA HUB HCM HD0
  obtain ⟨W1, hW1⟩ : ∃ W1, W1 = W.drewN q := ⟨_, rfl⟩
  rw [← hW1] at HD c0' c1' c2' c3' HBq Q2q hzq ⊢
  clear hW1
  go_wp2
  go_region_held3 (fun w' => w'.cell? ⟨w.heap.size, 0, none⟩ = some (.bool true) ∧ w'.cell? ⟨w.heap.size, 1, none⟩ = some (.slice pa na ca) ∧ w'.cell? ⟨w.heap.size + 1, 0, none⟩ = some (.bool false) ∧ w'.cell? ⟨w.heap.size + 1, 1, none⟩ = some (.slice pb nb cb))
    (first | exact ⟨c0', c1', c2', c3'⟩ | exact ⟨a0, a1, a2, a3⟩ | exact ⟨(set2_keep (show w.heap.size ≠ w.heap.size + 1 + 1 by omega)).trans a0, (set2_keep (show w.heap.size ≠ w.heap.size + 1 + 1 by omega)).trans a1, (set2_keep (show w.heap.size + 1 ≠ w.heap.size + 1 + 1 by omega)).trans a2, (set2_keep (show w.heap.size + 1 ≠ w.heap.size + 1 + 1 by omega)).trans a3⟩)
    (first
      | ((go_at_call 45; refine HD.out.mono ?_; rintro e w5 ⟨⟨v5, rfl, hu5⟩, hb5⟩
          have a0 : w5.cell? ⟨w.heap.size, 0, none⟩ = some (.bool true) := (hb5.cell (p := ⟨w.heap.size, 0, none⟩) (show w.heap.size < W1.heap.size by omega)).trans c0'
          have a1 : w5.cell? ⟨w.heap.size, 1, none⟩ = some (.slice pa na ca) := (hb5.cell (p := ⟨w.heap.size, 1, none⟩) (show w.heap.size < W1.heap.size by omega)).trans c1'
          have a2 : w5.cell? ⟨w.heap.size + 1, 0, none⟩ = some (.bool false) := (hb5.cell (p := ⟨w.heap.size + 1, 0, none⟩) (show w.heap.size + 1 < W1.heap.size by omega)).trans c2'
          have a3 : w5.cell? ⟨w.heap.size + 1, 1, none⟩ = some (.slice pb nb cb) := (hb5.cell (p := ⟨w.heap.size + 1, 1, none⟩) (show w.heap.size + 1 < W1.heap.size by omega)).trans c3'
          have hz5 : W1.heap.size ≤ w5.heap.size := hb5.size
          have HB5 := Lib.hid (HBq.out.drew.trans (hb5.mono (show w.heap.size ≤ W1.heap.size by omega)))
          have Q5 := Lib.hid ((hb5.block (w.heap.size + 1 + 1) hzq).trans Q2q.out)
          have SG := signed_any true _ v5 w5 hu5
          rw [HSG.out] at SG
          have H2 := Lib.hid SG
          clear hb5 hu5 SG))
      | ((go_at_call 35; refine H2.out.mono ?_; rintro e w6 ⟨⟨v6, rfl, hi6⟩, hb6⟩
          obtain ⟨sv6, rfl, hu6⟩ := hi6
          obtain ⟨s6, c6, rfl⟩ := hu6.val
          obtain ⟨l6, hl6⟩ : ∃ l6, l6 = (digB (z : Int).natAbs).length := ⟨_, rfl⟩
          obtain ⟨bb, hbb⟩ : ∃ bb, bb = decide ((z : Int) < 0) := ⟨_, rfl⟩
          rw [← hl6] at hu6 ⊢
          rw [← hbb]
          have HBB := Lib.hid hbb
          have a0 : w6.cell? ⟨w.heap.size, 0, none⟩ = some (.bool true) := (hb6.cell (p := ⟨w.heap.size, 0, none⟩) (show w.heap.size < w5.heap.size by omega)).trans a0
          have a1 : w6.cell? ⟨w.heap.size, 1, none⟩ = some (.slice pa na ca) := (hb6.cell (p := ⟨w.heap.size, 1, none⟩) (show w.heap.size < w5.heap.size by omega)).trans a1
          have a2 : w6.cell? ⟨w.heap.size + 1, 0, none⟩ = some (.bool false) := (hb6.cell (p := ⟨w.heap.size + 1, 0, none⟩) (show w.heap.size + 1 < w5.heap.size by omega)).trans a2
          have a3 : w6.cell? ⟨w.heap.size + 1, 1, none⟩ = some (.slice pb nb cb) := (hb6.cell (p := ⟨w.heap.size + 1, 1, none⟩) (show w.heap.size + 1 < w5.heap.size by omega)).trans a3
          have HB6 := Lib.hid (HB5.out.trans (hb6.mono (show w.heap.size ≤ w5.heap.size by omega)))
          have q6 := (hb6.block (w.heap.size + 1 + 1) (show w.heap.size + 1 + 1 < w5.heap.size by omega)).trans Q5.out
          have z0 : w6.cell? ⟨w.heap.size + 1 + 1, 0, none⟩ = some (.bool false) := Lib.cell_of_heap q6 0
          have z1 : w6.cell? ⟨w.heap.size + 1 + 1, 1, none⟩ = some (.slice none 0 0) := Lib.cell_of_heap q6 1
          have f0 : w6.frozen? ⟨w.heap.size + 1 + 1, 0, none⟩ = false := Lib.frozen_of_heap q6 0
          have f1 : w6.frozen? ⟨w.heap.size + 1 + 1, 1, none⟩ = false := Lib.frozen_of_heap q6 1
          have HR := Lib.hid (hu6.set2 q6 (.bool bb) (.slice s6 l6 c6))
          clear hb6 q6 hu6 hl6 hbb)))
  go_wp2
  refine bodyPost_ret (v := .agg #[.bool bb, .slice s6 l6 c6]) ?_ ?_ ?_
  · simp [results, Tryd.results25, go_sem, z0, z1]
  · rfl
  · refine ⟨⟨.agg #[.bool bb, .slice s6 l6 c6], rfl, .slice s6 l6 c6, ?_, HR.out⟩, ?_⟩
    · rw [HBB.out]
    · exact (HB6.out.setCell (p := ⟨w.heap.size + 1 + 1, 0, none⟩) (show w.heap.size ≤ w.heap.size + 1 + 1 by omega) _).setCell (p := ⟨w.heap.size + 1 + 1, 1, none⟩) (show w.heap.size ≤ w.heap.size + 1 + 1 by omega) _

set_option maxRecDepth 100000 in
set_option maxHeartbeats 8000000 in
theorem pAdd_lt_ft (x y : Int) (hx : (digB x.natAbs).length ≤ 10000) (hy : (digB y.natAbs).length ≤ 10000) (hM : decide (x < 0) = false) (hC : decide (y < 0) = true) (hl : x.natAbs < y.natAbs) (va vb : Value) (w : World) (ha : IntIs w va x) (hb : IntIs w vb y) :
    Calls Tryd.prog 25 #[va, vb] w (IntPost (x + y) w) := by
  obtain ⟨sa, rfl, hua⟩ := ha
  obtain ⟨sb, rfl, hub⟩ := hb
  obtain ⟨pa, ca, rfl⟩ := hua.val
  obtain ⟨pb, cb, rfl⟩ := hub.val
  obtain ⟨na, hna⟩ : ∃ na, na = (digB x.natAbs).length := ⟨_, rfl⟩
  obtain ⟨nb, hnb⟩ : ∃ nb, nb = (digB y.natAbs).length := ⟨_, rfl⟩
  rw [← hna] at hua ⊢
  rw [← hnb] at hub ⊢
  rw [hM, hC]
  obtain ⟨W, hW⟩ : ∃ W, W = ((w.alloc (.cells #[.bool false, .slice pa na ca] 25)).alloc (.cells #[.bool true, .slice pb nb cb] 25)).alloc (.cells #[.bool false, .slice none 0 0] 25) := ⟨_, rfl⟩
  have q0 : W.heap[w.heap.size]? = some (.cells #[.bool false, .slice pa na ca] 25 (0, 0)) := by rw [hW]; exact alloc_past (alloc_past (alloc_at (by simp)) (by simp)) (by simp; omega)
  have q1 : W.heap[w.heap.size + 1]? = some (.cells #[.bool true, .slice pb nb cb] 25 (0, 0)) := by rw [hW]; exact alloc_past (alloc_at (by simp)) (by simp)
  have q2 : W.heap[w.heap.size + 1 + 1]? = some (.cells #[.bool false, .slice none 0 0] 25 (0, 0)) := by rw [hW]; exact alloc_at (by simp)
  have c0 : W.cell? ⟨w.heap.size, 0, none⟩ = some (.bool false) := Lib.cell_of_heap q0 0
  have c1 : W.cell? ⟨w.heap.size, 1, none⟩ = some (.slice pa na ca) := Lib.cell_of_heap q0 1
  have c2 : W.cell? ⟨w.heap.size + 1, 0, none⟩ = some (.bool true) := Lib.cell_of_heap q1 0
  have c3 : W.cell? ⟨w.heap.size + 1, 1, none⟩ = some (.slice pb nb cb) := Lib.cell_of_heap q1 1
  have hz : w.heap.size + 1 + 1 < W.heap.size := by rw [hW]; simp
  have hBel : Below w.heap.size w W := by rw [hW]; exact (((Below.refl _ _).alloc (Nat.le_refl _) _).alloc (by simp) _).alloc (by simp; omega) _
  have HUA := Lib.hid (hua.below hBel)
  have HUB := Lib.hid (hub.below hBel)
  have HB := Lib.hid hBel
  have Q2 := Lib.hid q2
  have HW := Lib.hid hW
  have HMM := Lib.hid hM
  have HCC := Lib.hid hC
  obtain ⟨z, hzz⟩ : ∃ z, z = x + y := ⟨_, rfl⟩
  rw [← hzz]
  have CM := pcmp_any x.natAbs y.natAbs hx hy (.slice pa na ca) (.slice pb nb cb) W HUA.out HUB.out
  rw [show cmpN x.natAbs y.natAbs = -1 by unfold cmpN; rw [if_pos hl]] at CM
  have HCM := Lib.hid CM
  have DG : ∀ q, Calls Tryd.prog 45 #[.slice pb nb cb, .slice pa na ca] ((W.drewN q).drew) (DigPost (y.natAbs - x.natAbs) ((W.drewN q).drew)) := fun q => pdiff_any y.natAbs x.natAbs hy (by omega) (by omega) _ _ _ ((HUB.out.below (below_drewN (Below.refl _ _) q)).below (Below.refl _ _).drew) ((HUA.out.below (below_drewN (Below.refl _ _) q)).below (Below.refl _ _).drew)
  have hsg : sg true (y.natAbs - x.natAbs) = z := by rw [hzz, ← sg_difL (by rw [hM, hC]; decide) hl, hC]
  have HSG := Lib.hid hsg
  have HD0 := Lib.hid DG
  clear DG hsg hzz CM hl
  clear hua hub hW q0 q1 q2 hna hnb hM hC hBel
  go_enter Tryd.func25, Tryd.ntmps25
  go_wp2_with fail
  rw [← HW.out]
  refine HCM.out.mono ?_
  rintro e w1 ⟨rfl, q, rfl⟩
  have HD := Lib.hid (HD0.out q)
  have c0' : (W.drewN q).cell? ⟨w.heap.size, 0, none⟩ = some (.bool false) := c0
  have c1' : (W.drewN q).cell? ⟨w.heap.size, 1, none⟩ = some (.slice pa na ca) := c1
  have c2' : (W.drewN q).cell? ⟨w.heap.size + 1, 0, none⟩ = some (.bool true) := c2
  have c3' : (W.drewN q).cell? ⟨w.heap.size + 1, 1, none⟩ = some (.slice pb nb cb) := c3
  have HBq := Lib.hid (below_drewN HB.out q)
  have Q2q : Hid ((W.drewN q).heap[w.heap.size + 1 + 1]? = some (.cells #[.bool false, .slice none 0 0] 25 (0, 0))) := Q2.out
  have hzq : w.heap.size + 1 + 1 < (W.drewN q).heap.size := hz
  clear c0 c1 c2 c3 HW HB Q2 hz HUA HUB HCM HD0
  obtain ⟨W1, hW1⟩ : ∃ W1, W1 = W.drewN q := ⟨_, rfl⟩
  rw [← hW1] at HD c0' c1' c2' c3' HBq Q2q hzq ⊢
  clear hW1
  go_wp2
  go_region_held3 (fun w' => w'.cell? ⟨w.heap.size, 0, none⟩ = some (.bool false) ∧ w'.cell? ⟨w.heap.size, 1, none⟩ = some (.slice pa na ca) ∧ w'.cell? ⟨w.heap.size + 1, 0, none⟩ = some (.bool true) ∧ w'.cell? ⟨w.heap.size + 1, 1, none⟩ = some (.slice pb nb cb))
    (first | exact ⟨c0', c1', c2', c3'⟩ | exact ⟨a0, a1, a2, a3⟩ | exact ⟨(set2_keep (show w.heap.size ≠ w.heap.size + 1 + 1 by omega)).trans a0, (set2_keep (show w.heap.size ≠ w.heap.size + 1 + 1 by omega)).trans a1, (set2_keep (show w.heap.size + 1 ≠ w.heap.size + 1 + 1 by omega)).trans a2, (set2_keep (show w.heap.size + 1 ≠ w.heap.size + 1 + 1 by omega)).trans a3⟩)
    (first
      | ((go_at_call 45; refine HD.out.mono ?_; rintro e w5 ⟨⟨v5, rfl, hu5⟩, hb5⟩
          have a0 : w5.cell? ⟨w.heap.size, 0, none⟩ = some (.bool false) := (hb5.cell (p := ⟨w.heap.size, 0, none⟩) (show w.heap.size < W1.heap.size by omega)).trans c0'
          have a1 : w5.cell? ⟨w.heap.size, 1, none⟩ = some (.slice pa na ca) := (hb5.cell (p := ⟨w.heap.size, 1, none⟩) (show w.heap.size < W1.heap.size by omega)).trans c1'
          have a2 : w5.cell? ⟨w.heap.size + 1, 0, none⟩ = some (.bool true) := (hb5.cell (p := ⟨w.heap.size + 1, 0, none⟩) (show w.heap.size + 1 < W1.heap.size by omega)).trans c2'
          have a3 : w5.cell? ⟨w.heap.size + 1, 1, none⟩ = some (.slice pb nb cb) := (hb5.cell (p := ⟨w.heap.size + 1, 1, none⟩) (show w.heap.size + 1 < W1.heap.size by omega)).trans c3'
          have hz5 : W1.heap.size ≤ w5.heap.size := hb5.size
          have HB5 := Lib.hid (HBq.out.drew.trans (hb5.mono (show w.heap.size ≤ W1.heap.size by omega)))
          have Q5 := Lib.hid ((hb5.block (w.heap.size + 1 + 1) hzq).trans Q2q.out)
          have SG := signed_any true _ v5 w5 hu5
          rw [HSG.out] at SG
          have H2 := Lib.hid SG
          clear hb5 hu5 SG))
      | ((go_at_call 35; refine H2.out.mono ?_; rintro e w6 ⟨⟨v6, rfl, hi6⟩, hb6⟩
          obtain ⟨sv6, rfl, hu6⟩ := hi6
          obtain ⟨s6, c6, rfl⟩ := hu6.val
          obtain ⟨l6, hl6⟩ : ∃ l6, l6 = (digB (z : Int).natAbs).length := ⟨_, rfl⟩
          obtain ⟨bb, hbb⟩ : ∃ bb, bb = decide ((z : Int) < 0) := ⟨_, rfl⟩
          rw [← hl6] at hu6 ⊢
          rw [← hbb]
          have HBB := Lib.hid hbb
          have a0 : w6.cell? ⟨w.heap.size, 0, none⟩ = some (.bool false) := (hb6.cell (p := ⟨w.heap.size, 0, none⟩) (show w.heap.size < w5.heap.size by omega)).trans a0
          have a1 : w6.cell? ⟨w.heap.size, 1, none⟩ = some (.slice pa na ca) := (hb6.cell (p := ⟨w.heap.size, 1, none⟩) (show w.heap.size < w5.heap.size by omega)).trans a1
          have a2 : w6.cell? ⟨w.heap.size + 1, 0, none⟩ = some (.bool true) := (hb6.cell (p := ⟨w.heap.size + 1, 0, none⟩) (show w.heap.size + 1 < w5.heap.size by omega)).trans a2
          have a3 : w6.cell? ⟨w.heap.size + 1, 1, none⟩ = some (.slice pb nb cb) := (hb6.cell (p := ⟨w.heap.size + 1, 1, none⟩) (show w.heap.size + 1 < w5.heap.size by omega)).trans a3
          have HB6 := Lib.hid (HB5.out.trans (hb6.mono (show w.heap.size ≤ w5.heap.size by omega)))
          have q6 := (hb6.block (w.heap.size + 1 + 1) (show w.heap.size + 1 + 1 < w5.heap.size by omega)).trans Q5.out
          have z0 : w6.cell? ⟨w.heap.size + 1 + 1, 0, none⟩ = some (.bool false) := Lib.cell_of_heap q6 0
          have z1 : w6.cell? ⟨w.heap.size + 1 + 1, 1, none⟩ = some (.slice none 0 0) := Lib.cell_of_heap q6 1
          have f0 : w6.frozen? ⟨w.heap.size + 1 + 1, 0, none⟩ = false := Lib.frozen_of_heap q6 0
          have f1 : w6.frozen? ⟨w.heap.size + 1 + 1, 1, none⟩ = false := Lib.frozen_of_heap q6 1
          have HR := Lib.hid (hu6.set2 q6 (.bool bb) (.slice s6 l6 c6))
          clear hb6 q6 hu6 hl6 hbb)))
  go_wp2
  refine bodyPost_ret (v := .agg #[.bool bb, .slice s6 l6 c6]) ?_ ?_ ?_
  · simp [results, Tryd.results25, go_sem, z0, z1]
  · rfl
  · refine ⟨⟨.agg #[.bool bb, .slice s6 l6 c6], rfl, .slice s6 l6 c6, ?_, HR.out⟩, ?_⟩
    · rw [HBB.out]
    · exact (HB6.out.setCell (p := ⟨w.heap.size + 1 + 1, 0, none⟩) (show w.heap.size ≤ w.heap.size + 1 + 1 by omega) _).setCell (p := ⟨w.heap.size + 1 + 1, 1, none⟩) (show w.heap.size ≤ w.heap.size + 1 + 1 by omega) _

set_option maxRecDepth 100000 in
set_option maxHeartbeats 8000000 in
theorem pAdd_ge_ft (x y : Int) (hx : (digB x.natAbs).length ≤ 10000) (hy : (digB y.natAbs).length ≤ 10000) (hM : decide (x < 0) = false) (hC : decide (y < 0) = true) (hl : ¬ x.natAbs < y.natAbs) (va vb : Value) (w : World) (ha : IntIs w va x) (hb : IntIs w vb y) :
    Calls Tryd.prog 25 #[va, vb] w (IntPost (x + y) w) := by
  obtain ⟨sa, rfl, hua⟩ := ha
  obtain ⟨sb, rfl, hub⟩ := hb
  obtain ⟨pa, ca, rfl⟩ := hua.val
  obtain ⟨pb, cb, rfl⟩ := hub.val
  obtain ⟨na, hna⟩ : ∃ na, na = (digB x.natAbs).length := ⟨_, rfl⟩
  obtain ⟨nb, hnb⟩ : ∃ nb, nb = (digB y.natAbs).length := ⟨_, rfl⟩
  rw [← hna] at hua ⊢
  rw [← hnb] at hub ⊢
  rw [hM, hC]
  obtain ⟨W, hW⟩ : ∃ W, W = ((w.alloc (.cells #[.bool false, .slice pa na ca] 25)).alloc (.cells #[.bool true, .slice pb nb cb] 25)).alloc (.cells #[.bool false, .slice none 0 0] 25) := ⟨_, rfl⟩
  have q0 : W.heap[w.heap.size]? = some (.cells #[.bool false, .slice pa na ca] 25 (0, 0)) := by rw [hW]; exact alloc_past (alloc_past (alloc_at (by simp)) (by simp)) (by simp; omega)
  have q1 : W.heap[w.heap.size + 1]? = some (.cells #[.bool true, .slice pb nb cb] 25 (0, 0)) := by rw [hW]; exact alloc_past (alloc_at (by simp)) (by simp)
  have q2 : W.heap[w.heap.size + 1 + 1]? = some (.cells #[.bool false, .slice none 0 0] 25 (0, 0)) := by rw [hW]; exact alloc_at (by simp)
  have c0 : W.cell? ⟨w.heap.size, 0, none⟩ = some (.bool false) := Lib.cell_of_heap q0 0
  have c1 : W.cell? ⟨w.heap.size, 1, none⟩ = some (.slice pa na ca) := Lib.cell_of_heap q0 1
  have c2 : W.cell? ⟨w.heap.size + 1, 0, none⟩ = some (.bool true) := Lib.cell_of_heap q1 0
  have c3 : W.cell? ⟨w.heap.size + 1, 1, none⟩ = some (.slice pb nb cb) := Lib.cell_of_heap q1 1
  have hz : w.heap.size + 1 + 1 < W.heap.size := by rw [hW]; simp
  have hBel : Below w.heap.size w W := by rw [hW]; exact (((Below.refl _ _).alloc (Nat.le_refl _) _).alloc (by simp) _).alloc (by simp; omega) _
  have HUA := Lib.hid (hua.below hBel)
  have HUB := Lib.hid (hub.below hBel)
  have HB := Lib.hid hBel
  have Q2 := Lib.hid q2
  have HW := Lib.hid hW
  have HMM := Lib.hid hM
  have HCC := Lib.hid hC
  obtain ⟨z, hzz⟩ : ∃ z, z = x + y := ⟨_, rfl⟩
  rw [← hzz]
  have hcz : (cmpN x.natAbs y.natAbs < 0) = False := by rw [cmp_neg]; exact eq_false hl
  have CM := pcmp_any x.natAbs y.natAbs hx hy (.slice pa na ca) (.slice pb nb cb) W HUA.out HUB.out
  obtain ⟨cz, hcc⟩ : ∃ cz, cz = cmpN x.natAbs y.natAbs := ⟨_, rfl⟩
  rw [← hcc] at CM hcz
  have hcn : ¬ cz < 0 := by rw [hcz]; exact id
  have HCM := Lib.hid CM
  have DG : ∀ q, Calls Tryd.prog 45 #[.slice pa na ca, .slice pb nb cb] ((W.drewN q).drew) (DigPost (x.natAbs - y.natAbs) ((W.drewN q).drew)) := fun q => pdiff_any x.natAbs y.natAbs hx (sg_difG (by rw [hM, hC]; decide) hl).2 (by omega) _ _ _ ((HUA.out.below (below_drewN (Below.refl _ _) q)).below (Below.refl _ _).drew) ((HUB.out.below (below_drewN (Below.refl _ _) q)).below (Below.refl _ _).drew)
  have hsg : sg false (x.natAbs - y.natAbs) = z := by rw [hzz, ← (sg_difG (by rw [hM, hC]; decide) hl).1, hM]
  have HSG := Lib.hid hsg
  have HD0 := Lib.hid DG
  clear DG hsg hzz CM hl hcc hcz
  clear hua hub hW q0 q1 q2 hna hnb hM hC hBel
  go_enter Tryd.func25, Tryd.ntmps25
  go_wp2_with fail
  rw [← HW.out]
  refine HCM.out.mono ?_
  rintro e w1 ⟨rfl, q, rfl⟩
  have HD := Lib.hid (HD0.out q)
  have c0' : (W.drewN q).cell? ⟨w.heap.size, 0, none⟩ = some (.bool false) := c0
  have c1' : (W.drewN q).cell? ⟨w.heap.size, 1, none⟩ = some (.slice pa na ca) := c1
  have c2' : (W.drewN q).cell? ⟨w.heap.size + 1, 0, none⟩ = some (.bool true) := c2
  have c3' : (W.drewN q).cell? ⟨w.heap.size + 1, 1, none⟩ = some (.slice pb nb cb) := c3
  have HBq := Lib.hid (below_drewN HB.out q)
  have Q2q : Hid ((W.drewN q).heap[w.heap.size + 1 + 1]? = some (.cells #[.bool false, .slice none 0 0] 25 (0, 0))) := Q2.out
  have hzq : w.heap.size + 1 + 1 < (W.drewN q).heap.size := hz
  clear c0 c1 c2 c3 HW HB Q2 hz HUA HUB HCM HD0
  obtain ⟨W1, hW1⟩ : ∃ W1, W1 = W.drewN q := ⟨_, rfl⟩
  rw [← hW1] at HD c0' c1' c2' c3' HBq Q2q hzq ⊢
  clear hW1
  go_wp2
  go_region_held3 (fun w' => w'.cell? ⟨w.heap.size, 0, none⟩ = some (.bool false) ∧ w'.cell? ⟨w.heap.size, 1, none⟩ = some (.slice pa na ca) ∧ w'.cell? ⟨w.heap.size + 1, 0, none⟩ = some (.bool true) ∧ w'.cell? ⟨w.heap.size + 1, 1, none⟩ = some (.slice pb nb cb))
    (first | exact ⟨c0', c1', c2', c3'⟩ | exact ⟨a0, a1, a2, a3⟩ | exact ⟨(set2_keep (show w.heap.size ≠ w.heap.size + 1 + 1 by omega)).trans a0, (set2_keep (show w.heap.size ≠ w.heap.size + 1 + 1 by omega)).trans a1, (set2_keep (show w.heap.size + 1 ≠ w.heap.size + 1 + 1 by omega)).trans a2, (set2_keep (show w.heap.size + 1 ≠ w.heap.size + 1 + 1 by omega)).trans a3⟩)
    (first
      | ((go_at_call 45; refine HD.out.mono ?_; rintro e w5 ⟨⟨v5, rfl, hu5⟩, hb5⟩
          have a0 : w5.cell? ⟨w.heap.size, 0, none⟩ = some (.bool false) := (hb5.cell (p := ⟨w.heap.size, 0, none⟩) (show w.heap.size < W1.heap.size by omega)).trans c0'
          have a1 : w5.cell? ⟨w.heap.size, 1, none⟩ = some (.slice pa na ca) := (hb5.cell (p := ⟨w.heap.size, 1, none⟩) (show w.heap.size < W1.heap.size by omega)).trans c1'
          have a2 : w5.cell? ⟨w.heap.size + 1, 0, none⟩ = some (.bool true) := (hb5.cell (p := ⟨w.heap.size + 1, 0, none⟩) (show w.heap.size + 1 < W1.heap.size by omega)).trans c2'
          have a3 : w5.cell? ⟨w.heap.size + 1, 1, none⟩ = some (.slice pb nb cb) := (hb5.cell (p := ⟨w.heap.size + 1, 1, none⟩) (show w.heap.size + 1 < W1.heap.size by omega)).trans c3'
          have hz5 : W1.heap.size ≤ w5.heap.size := hb5.size
          have HB5 := Lib.hid (HBq.out.drew.trans (hb5.mono (show w.heap.size ≤ W1.heap.size by omega)))
          have Q5 := Lib.hid ((hb5.block (w.heap.size + 1 + 1) hzq).trans Q2q.out)
          have SG := signed_any false _ v5 w5 hu5
          rw [HSG.out] at SG
          have H2 := Lib.hid SG
          clear hb5 hu5 SG))
      | ((go_at_call 35; refine H2.out.mono ?_; rintro e w6 ⟨⟨v6, rfl, hi6⟩, hb6⟩
          obtain ⟨sv6, rfl, hu6⟩ := hi6
          obtain ⟨s6, c6, rfl⟩ := hu6.val
          obtain ⟨l6, hl6⟩ : ∃ l6, l6 = (digB (z : Int).natAbs).length := ⟨_, rfl⟩
          obtain ⟨bb, hbb⟩ : ∃ bb, bb = decide ((z : Int) < 0) := ⟨_, rfl⟩
          rw [← hl6] at hu6 ⊢
          rw [← hbb]
          have HBB := Lib.hid hbb
          have a0 : w6.cell? ⟨w.heap.size, 0, none⟩ = some (.bool false) := (hb6.cell (p := ⟨w.heap.size, 0, none⟩) (show w.heap.size < w5.heap.size by omega)).trans a0
          have a1 : w6.cell? ⟨w.heap.size, 1, none⟩ = some (.slice pa na ca) := (hb6.cell (p := ⟨w.heap.size, 1, none⟩) (show w.heap.size < w5.heap.size by omega)).trans a1
          have a2 : w6.cell? ⟨w.heap.size + 1, 0, none⟩ = some (.bool true) := (hb6.cell (p := ⟨w.heap.size + 1, 0, none⟩) (show w.heap.size + 1 < w5.heap.size by omega)).trans a2
          have a3 : w6.cell? ⟨w.heap.size + 1, 1, none⟩ = some (.slice pb nb cb) := (hb6.cell (p := ⟨w.heap.size + 1, 1, none⟩) (show w.heap.size + 1 < w5.heap.size by omega)).trans a3
          have HB6 := Lib.hid (HB5.out.trans (hb6.mono (show w.heap.size ≤ w5.heap.size by omega)))
          have q6 := (hb6.block (w.heap.size + 1 + 1) (show w.heap.size + 1 + 1 < w5.heap.size by omega)).trans Q5.out
          have z0 : w6.cell? ⟨w.heap.size + 1 + 1, 0, none⟩ = some (.bool false) := Lib.cell_of_heap q6 0
          have z1 : w6.cell? ⟨w.heap.size + 1 + 1, 1, none⟩ = some (.slice none 0 0) := Lib.cell_of_heap q6 1
          have f0 : w6.frozen? ⟨w.heap.size + 1 + 1, 0, none⟩ = false := Lib.frozen_of_heap q6 0
          have f1 : w6.frozen? ⟨w.heap.size + 1 + 1, 1, none⟩ = false := Lib.frozen_of_heap q6 1
          have HR := Lib.hid (hu6.set2 q6 (.bool bb) (.slice s6 l6 c6))
          clear hb6 q6 hu6 hl6 hbb)))
  go_wp2
  refine bodyPost_ret (v := .agg #[.bool bb, .slice s6 l6 c6]) ?_ ?_ ?_
  · simp [results, Tryd.results25, go_sem, z0, z1]
  · rfl
  · refine ⟨⟨.agg #[.bool bb, .slice s6 l6 c6], rfl, .slice s6 l6 c6, ?_, HR.out⟩, ?_⟩
    · rw [HBB.out]
    · exact (HB6.out.setCell (p := ⟨w.heap.size + 1 + 1, 0, none⟩) (show w.heap.size ≤ w.heap.size + 1 + 1 by omega) _).setCell (p := ⟨w.heap.size + 1 + 1, 1, none⟩) (show w.heap.size ≤ w.heap.size + 1 + 1 by omega) _

theorem pAdd_any (x y : Int) (hx : (digB x.natAbs).length ≤ 10000) (hy : (digB y.natAbs).length ≤ 10000) (va vb : Value) (w : World) (ha : IntIs w va x) (hb : IntIs w vb y) :
    Calls Tryd.prog 25 #[va, vb] w (IntPost (x + y) w) := by
  cases hM : decide (x < 0) <;> cases hC : decide (y < 0)
  · exact pAdd_same_ff x y hx hy hM hC va vb w ha hb
  · by_cases hl : x.natAbs < y.natAbs
    · exact pAdd_lt_ft x y hx hy hM hC hl va vb w ha hb
    · exact pAdd_ge_ft x y hx hy hM hC hl va vb w ha hb
  · by_cases hl : x.natAbs < y.natAbs
    · exact pAdd_lt_tf x y hx hy hM hC hl va vb w ha hb
    · exact pAdd_ge_tf x y hx hy hM hC hl va vb w ha hb
  · exact pAdd_same_tt x y hx hy hM hC va vb w ha hb
end Go.Proofs.YtibhfcnjmilepaaDoor
