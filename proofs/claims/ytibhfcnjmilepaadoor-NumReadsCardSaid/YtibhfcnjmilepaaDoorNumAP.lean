import Derived.Test.YtibhfcnjmilepaaDoorNumAO
namespace Go.Proofs.YtibhfcnjmilepaaDoor
open Go.RowKit

set_option maxRecDepth 100000 in
set_option maxHeartbeats 8000000 in
theorem pMul_any (x y : Int) (hx : (digB x.natAbs).length ≤ 10000) (hy : (digB y.natAbs).length ≤ 10000) (va vb : Value) (w : World) (ha : IntIs w va x) (hb : IntIs w vb y) :
    Calls Tryd.prog 29 #[va, vb] w (IntPost (x * y) w) := by
  obtain ⟨m, hM⟩ : ∃ m, decide (x < 0) = m := ⟨_, rfl⟩
  obtain ⟨c, hC⟩ : ∃ c, decide (y < 0) = c := ⟨_, rfl⟩
  obtain ⟨sa, rfl, hua⟩ := ha
  obtain ⟨sb, rfl, hub⟩ := hb
  obtain ⟨pa, ca, rfl⟩ := hua.val
  obtain ⟨pb, cb, rfl⟩ := hub.val
  obtain ⟨na, hna⟩ : ∃ na, na = (digB x.natAbs).length := ⟨_, rfl⟩
  obtain ⟨nb, hnb⟩ : ∃ nb, nb = (digB y.natAbs).length := ⟨_, rfl⟩
  rw [← hna] at hua ⊢
  rw [← hnb] at hub ⊢
  rw [hM, hC]
  obtain ⟨W, hW⟩ : ∃ W, W = ((w.alloc (.cells #[.bool m, .slice pa na ca] 25)).alloc (.cells #[.bool c, .slice pb nb cb] 25)).alloc (.cells #[.bool false, .slice none 0 0] 25) := ⟨_, rfl⟩
  have q0 : W.heap[w.heap.size]? = some (.cells #[.bool m, .slice pa na ca] 25 (0, 0)) := by rw [hW]; exact alloc_past (alloc_past (alloc_at (by simp)) (by simp)) (by simp; omega)
  have q1 : W.heap[w.heap.size + 1]? = some (.cells #[.bool c, .slice pb nb cb] 25 (0, 0)) := by rw [hW]; exact alloc_past (alloc_at (by simp)) (by simp)
  have q2 : W.heap[w.heap.size + 1 + 1]? = some (.cells #[.bool false, .slice none 0 0] 25 (0, 0)) := by rw [hW]; exact alloc_at (by simp)
  have c0 : W.cell? ⟨w.heap.size, 0, none⟩ = some (.bool m) := Lib.cell_of_heap q0 0
  have c1 : W.cell? ⟨w.heap.size, 1, none⟩ = some (.slice pa na ca) := Lib.cell_of_heap q0 1
  have c2 : W.cell? ⟨w.heap.size + 1, 0, none⟩ = some (.bool c) := Lib.cell_of_heap q1 0
  have c3 : W.cell? ⟨w.heap.size + 1, 1, none⟩ = some (.slice pb nb cb) := Lib.cell_of_heap q1 1
  have hz : w.heap.size + 1 + 1 < W.heap.size := by rw [hW]; simp
  have hBel : Below w.heap.size w W := by rw [hW]; exact (((Below.refl _ _).alloc (Nat.le_refl _) _).alloc (by simp) _).alloc (by simp; omega) _
  have HUA := Lib.hid (hua.below hBel)
  have HUB := Lib.hid (hub.below hBel)
  have HB := Lib.hid hBel
  have Q2 := Lib.hid q2
  have HW := Lib.hid hW
  have HMM := Lib.hid hM
  have HCC := Lib.hid hC
  obtain ⟨z, hzz⟩ : ∃ z, z = x * y := ⟨_, rfl⟩
  rw [← hzz]
  have DG := pprod_any x.natAbs y.natAbs hx hy (.slice pa na ca) (.slice pb nb cb) W.drew (HUA.out.below (Below.refl _ _).drew) (HUB.out.below (Below.refl _ _).drew)
  have hsg : sg (m != c) (x.natAbs * y.natAbs) = z := by rw [hzz, ← sg_mulZ, hM, hC]
  have HSG := Lib.hid hsg
  have HD := Lib.hid DG
  clear DG hsg hzz
  clear hua hub hW q0 q1 q2 hna hnb hM hC hBel
  go_enter Tryd.func29, Tryd.ntmps29
  go_wp2
  rw [← HW.out]
  go_region_held3 (fun w' => w'.cell? ⟨w.heap.size, 0, none⟩ = some (.bool m) ∧ w'.cell? ⟨w.heap.size, 1, none⟩ = some (.slice pa na ca) ∧ w'.cell? ⟨w.heap.size + 1, 0, none⟩ = some (.bool c) ∧ w'.cell? ⟨w.heap.size + 1, 1, none⟩ = some (.slice pb nb cb))
    (first | exact ⟨c0, c1, c2, c3⟩ | exact ⟨a0, a1, a2, a3⟩ | exact ⟨(set2_keep (show w.heap.size ≠ w.heap.size + 1 + 1 by omega)).trans a0, (set2_keep (show w.heap.size ≠ w.heap.size + 1 + 1 by omega)).trans a1, (set2_keep (show w.heap.size + 1 ≠ w.heap.size + 1 + 1 by omega)).trans a2, (set2_keep (show w.heap.size + 1 ≠ w.heap.size + 1 + 1 by omega)).trans a3⟩)
    (first
      | ((go_at_call 49; refine HD.out.mono ?_; rintro e w5 ⟨⟨v5, rfl, hu5⟩, hb5⟩
          have a0 : w5.cell? ⟨w.heap.size, 0, none⟩ = some (.bool m) := (hb5.cell (p := ⟨w.heap.size, 0, none⟩) (show w.heap.size < W.heap.size by omega)).trans c0
          have a1 : w5.cell? ⟨w.heap.size, 1, none⟩ = some (.slice pa na ca) := (hb5.cell (p := ⟨w.heap.size, 1, none⟩) (show w.heap.size < W.heap.size by omega)).trans c1
          have a2 : w5.cell? ⟨w.heap.size + 1, 0, none⟩ = some (.bool c) := (hb5.cell (p := ⟨w.heap.size + 1, 0, none⟩) (show w.heap.size + 1 < W.heap.size by omega)).trans c2
          have a3 : w5.cell? ⟨w.heap.size + 1, 1, none⟩ = some (.slice pb nb cb) := (hb5.cell (p := ⟨w.heap.size + 1, 1, none⟩) (show w.heap.size + 1 < W.heap.size by omega)).trans c3
          have hz5 : W.heap.size ≤ w5.heap.size := hb5.size
          have HB5 := Lib.hid (HB.out.drew.trans (hb5.mono (show w.heap.size ≤ W.heap.size by omega)))
          have Q5 := Lib.hid ((hb5.block (w.heap.size + 1 + 1) hz).trans Q2.out)
          have SG := signed_any (m != c) _ v5 w5 hu5
          rw [HSG.out] at SG
          have H2 := Lib.hid SG
          clear hb5 hu5 SG))
      | ((go_at_call 35; refine H2.out.mono ?_; rintro e w6 ⟨⟨v6, rfl, hi6⟩, hb6⟩
          obtain ⟨sv6, rfl, hu6⟩ := hi6
          obtain ⟨s6, c6, rfl⟩ := hu6.val
          obtain ⟨l6, hl6⟩ : ∃ l6, l6 = (digB (z : Int).natAbs).length := ⟨_, rfl⟩
          obtain ⟨bb, hbb⟩ : ∃ bb, bb = decide ((z : Int) < 0) := ⟨_, rfl⟩
          rw [← hl6] at hu6 ⊢
          rw [← hbb]
          have HBB := Lib.hid hbb
          have a0 : w6.cell? ⟨w.heap.size, 0, none⟩ = some (.bool m) := (hb6.cell (p := ⟨w.heap.size, 0, none⟩) (show w.heap.size < w5.heap.size by omega)).trans a0
          have a1 : w6.cell? ⟨w.heap.size, 1, none⟩ = some (.slice pa na ca) := (hb6.cell (p := ⟨w.heap.size, 1, none⟩) (show w.heap.size < w5.heap.size by omega)).trans a1
          have a2 : w6.cell? ⟨w.heap.size + 1, 0, none⟩ = some (.bool c) := (hb6.cell (p := ⟨w.heap.size + 1, 0, none⟩) (show w.heap.size + 1 < w5.heap.size by omega)).trans a2
          have a3 : w6.cell? ⟨w.heap.size + 1, 1, none⟩ = some (.slice pb nb cb) := (hb6.cell (p := ⟨w.heap.size + 1, 1, none⟩) (show w.heap.size + 1 < w5.heap.size by omega)).trans a3
          have HB6 := Lib.hid (HB5.out.trans (hb6.mono (show w.heap.size ≤ w5.heap.size by omega)))
          have q6 := (hb6.block (w.heap.size + 1 + 1) (show w.heap.size + 1 + 1 < w5.heap.size by omega)).trans Q5.out
          have z0 : w6.cell? ⟨w.heap.size + 1 + 1, 0, none⟩ = some (.bool false) := Lib.cell_of_heap q6 0
          have z1 : w6.cell? ⟨w.heap.size + 1 + 1, 1, none⟩ = some (.slice none 0 0) := Lib.cell_of_heap q6 1
          have f0 : w6.frozen? ⟨w.heap.size + 1 + 1, 0, none⟩ = false := Lib.frozen_of_heap q6 0
          have f1 : w6.frozen? ⟨w.heap.size + 1 + 1, 1, none⟩ = false := Lib.frozen_of_heap q6 1
          have HR := Lib.hid (hu6.set2 q6 (.bool bb) (.slice s6 l6 c6))
          clear hb6 q6 hu6 hl6 hbb)))
  go_wp2
  refine bodyPost_ret (v := .agg #[.bool bb, .slice s6 l6 c6]) ?_ ?_ ?_
  · simp [results, Tryd.results29, go_sem, z0, z1]
  · rfl
  · refine ⟨⟨.agg #[.bool bb, .slice s6 l6 c6], rfl, .slice s6 l6 c6, ?_, HR.out⟩, ?_⟩
    · rw [HBB.out]
    · exact (HB6.out.setCell (p := ⟨w.heap.size + 1 + 1, 0, none⟩) (show w.heap.size ≤ w.heap.size + 1 + 1 by omega) _).setCell (p := ⟨w.heap.size + 1 + 1, 1, none⟩) (show w.heap.size ≤ w.heap.size + 1 + 1 by omega) _

set_option maxRecDepth 100000 in
set_option maxHeartbeats 8000000 in
theorem pSub_any (x y : Int) (hx : (digB x.natAbs).length ≤ 10000) (hy : (digB y.natAbs).length ≤ 10000) (va vb : Value) (w : World) (ha : IntIs w va x) (hb : IntIs w vb y) :
    Calls Tryd.prog 27 #[va, vb] w (IntPost (x - y) w) := by
  obtain ⟨m, hM⟩ : ∃ m, decide (x < 0) = m := ⟨_, rfl⟩
  obtain ⟨c, hC⟩ : ∃ c, decide (y < 0) = c := ⟨_, rfl⟩
  obtain ⟨sa, rfl, hua⟩ := ha
  obtain ⟨sb, rfl, hub⟩ := hb
  obtain ⟨pa, ca, rfl⟩ := hua.val
  obtain ⟨pb, cb, rfl⟩ := hub.val
  obtain ⟨na, hna⟩ : ∃ na, na = (digB x.natAbs).length := ⟨_, rfl⟩
  obtain ⟨nb, hnb⟩ : ∃ nb, nb = (digB y.natAbs).length := ⟨_, rfl⟩
  rw [← hna] at hua ⊢
  rw [← hnb] at hub ⊢
  rw [hM, hC]
  obtain ⟨W, hW⟩ : ∃ W, W = ((w.alloc (.cells #[.bool m, .slice pa na ca] 25)).alloc (.cells #[.bool c, .slice pb nb cb] 25)).alloc (.cells #[.bool false, .slice none 0 0] 25) := ⟨_, rfl⟩
  have q0 : W.heap[w.heap.size]? = some (.cells #[.bool m, .slice pa na ca] 25 (0, 0)) := by rw [hW]; exact alloc_past (alloc_past (alloc_at (by simp)) (by simp)) (by simp; omega)
  have q1 : W.heap[w.heap.size + 1]? = some (.cells #[.bool c, .slice pb nb cb] 25 (0, 0)) := by rw [hW]; exact alloc_past (alloc_at (by simp)) (by simp)
  have q2 : W.heap[w.heap.size + 1 + 1]? = some (.cells #[.bool false, .slice none 0 0] 25 (0, 0)) := by rw [hW]; exact alloc_at (by simp)
  have c0 : W.cell? ⟨w.heap.size, 0, none⟩ = some (.bool m) := Lib.cell_of_heap q0 0
  have c1 : W.cell? ⟨w.heap.size, 1, none⟩ = some (.slice pa na ca) := Lib.cell_of_heap q0 1
  have c2 : W.cell? ⟨w.heap.size + 1, 0, none⟩ = some (.bool c) := Lib.cell_of_heap q1 0
  have c3 : W.cell? ⟨w.heap.size + 1, 1, none⟩ = some (.slice pb nb cb) := Lib.cell_of_heap q1 1
  have hz : w.heap.size + 1 + 1 < W.heap.size := by rw [hW]; simp
  have hBel : Below w.heap.size w W := by rw [hW]; exact (((Below.refl _ _).alloc (Nat.le_refl _) _).alloc (by simp) _).alloc (by simp; omega) _
  have HUA := Lib.hid (hua.below hBel)
  have HUB := Lib.hid (hub.below hBel)
  have HB := Lib.hid hBel
  have Q2 := Lib.hid q2
  have HW := Lib.hid hW
  have HMM := Lib.hid hM
  have HCC := Lib.hid hC
  obtain ⟨z, hzz⟩ : ∃ z, z = x + -y := ⟨_, rfl⟩
  rw [show x - y = z by rw [hzz]; omega]
  have SG := signed_any (!c) y.natAbs (.slice pb nb cb) W.drew (HUB.out.below (Below.refl _ _).drew)
  rw [show sg (!c) y.natAbs = -y by rw [← hC]; exact sg_negZ y] at SG
  have HSG := Lib.hid SG
  have hia : IntIs W (.agg #[.bool m, .slice pa na ca]) x := ⟨_, by rw [hM], HUA.out⟩
  have HIA := Lib.hid hia
  have hnn : (digB (-y).natAbs).length ≤ 10000 := by rw [Int.natAbs_neg]; exact hy
  have HNN := Lib.hid hnn
  have HXX := Lib.hid hx
  have HZZ := Lib.hid hzz
  clear SG hia hnn hzz hx hy
  clear hua hub hW q0 q1 q2 hna hnb hM hC hBel
  go_enter Tryd.func27, Tryd.ntmps27
  go_wp2
  rw [← HW.out]
  go_region_held3 (fun w' => w'.cell? ⟨w.heap.size, 0, none⟩ = some (.bool m) ∧ w'.cell? ⟨w.heap.size, 1, none⟩ = some (.slice pa na ca) ∧ w'.cell? ⟨w.heap.size + 1, 0, none⟩ = some (.bool c) ∧ w'.cell? ⟨w.heap.size + 1, 1, none⟩ = some (.slice pb nb cb))
    (first | exact ⟨c0, c1, c2, c3⟩ | exact ⟨a0, a1, a2, a3⟩ | exact ⟨(set2_keep (show w.heap.size ≠ w.heap.size + 1 + 1 by omega)).trans a0, (set2_keep (show w.heap.size ≠ w.heap.size + 1 + 1 by omega)).trans a1, (set2_keep (show w.heap.size + 1 ≠ w.heap.size + 1 + 1 by omega)).trans a2, (set2_keep (show w.heap.size + 1 ≠ w.heap.size + 1 + 1 by omega)).trans a3⟩)
    (first
      | ((go_at_call 35; refine HSG.out.mono ?_; rintro e w5 ⟨⟨v5, rfl, hi5⟩, hb5⟩
          have a0 : w5.cell? ⟨w.heap.size, 0, none⟩ = some (.bool m) := (hb5.cell (p := ⟨w.heap.size, 0, none⟩) (show w.heap.size < W.heap.size by omega)).trans c0
          have a1 : w5.cell? ⟨w.heap.size, 1, none⟩ = some (.slice pa na ca) := (hb5.cell (p := ⟨w.heap.size, 1, none⟩) (show w.heap.size < W.heap.size by omega)).trans c1
          have a2 : w5.cell? ⟨w.heap.size + 1, 0, none⟩ = some (.bool c) := (hb5.cell (p := ⟨w.heap.size + 1, 0, none⟩) (show w.heap.size + 1 < W.heap.size by omega)).trans c2
          have a3 : w5.cell? ⟨w.heap.size + 1, 1, none⟩ = some (.slice pb nb cb) := (hb5.cell (p := ⟨w.heap.size + 1, 1, none⟩) (show w.heap.size + 1 < W.heap.size by omega)).trans c3
          have hz5 : W.heap.size ≤ w5.heap.size := hb5.size
          have HB5 := Lib.hid (HB.out.drew.trans (hb5.mono (show w.heap.size ≤ W.heap.size by omega)))
          have Q5 := Lib.hid ((hb5.block (w.heap.size + 1 + 1) hz).trans Q2.out)
          have AD := pAdd_any x (-y) HXX.out HNN.out _ v5 w5 (HIA.out.below ((Below.refl _ _).drew.trans hb5)) hi5
          rw [← HZZ.out] at AD
          have H2 := Lib.hid AD
          clear hb5 hi5 AD))
      | ((go_at_call 25; refine H2.out.mono ?_; rintro e w6 ⟨⟨v6, rfl, hi6⟩, hb6⟩
          obtain ⟨sv6, rfl, hu6⟩ := hi6
          obtain ⟨s6, c6, rfl⟩ := hu6.val
          obtain ⟨l6, hl6⟩ : ∃ l6, l6 = (digB (z : Int).natAbs).length := ⟨_, rfl⟩
          obtain ⟨bb, hbb⟩ : ∃ bb, bb = decide ((z : Int) < 0) := ⟨_, rfl⟩
          rw [← hl6] at hu6 ⊢
          rw [← hbb]
          have HBB := Lib.hid hbb
          have a0 : w6.cell? ⟨w.heap.size, 0, none⟩ = some (.bool m) := (hb6.cell (p := ⟨w.heap.size, 0, none⟩) (show w.heap.size < w5.heap.size by omega)).trans a0
          have a1 : w6.cell? ⟨w.heap.size, 1, none⟩ = some (.slice pa na ca) := (hb6.cell (p := ⟨w.heap.size, 1, none⟩) (show w.heap.size < w5.heap.size by omega)).trans a1
          have a2 : w6.cell? ⟨w.heap.size + 1, 0, none⟩ = some (.bool c) := (hb6.cell (p := ⟨w.heap.size + 1, 0, none⟩) (show w.heap.size + 1 < w5.heap.size by omega)).trans a2
          have a3 : w6.cell? ⟨w.heap.size + 1, 1, none⟩ = some (.slice pb nb cb) := (hb6.cell (p := ⟨w.heap.size + 1, 1, none⟩) (show w.heap.size + 1 < w5.heap.size by omega)).trans a3
          have HB6 := Lib.hid (HB5.out.trans (hb6.mono (show w.heap.size ≤ w5.heap.size by omega)))
          have q6 := (hb6.block (w.heap.size + 1 + 1) (show w.heap.size + 1 + 1 < w5.heap.size by omega)).trans Q5.out
          have z0 : w6.cell? ⟨w.heap.size + 1 + 1, 0, none⟩ = some (.bool false) := Lib.cell_of_heap q6 0
          have z1 : w6.cell? ⟨w.heap.size + 1 + 1, 1, none⟩ = some (.slice none 0 0) := Lib.cell_of_heap q6 1
          have f0 : w6.frozen? ⟨w.heap.size + 1 + 1, 0, none⟩ = false := Lib.frozen_of_heap q6 0
          have f1 : w6.frozen? ⟨w.heap.size + 1 + 1, 1, none⟩ = false := Lib.frozen_of_heap q6 1
          have HR := Lib.hid (hu6.set2 q6 (.bool bb) (.slice s6 l6 c6))
          clear hb6 q6 hu6 hl6 hbb)))
  go_wp2
  refine bodyPost_ret (v := .agg #[.bool bb, .slice s6 l6 c6]) ?_ ?_ ?_
  · simp [results, Tryd.results27, go_sem, z0, z1]
  · rfl
  · refine ⟨⟨.agg #[.bool bb, .slice s6 l6 c6], rfl, .slice s6 l6 c6, ?_, HR.out⟩, ?_⟩
    · rw [HBB.out]
    · exact (HB6.out.setCell (p := ⟨w.heap.size + 1 + 1, 0, none⟩) (show w.heap.size ≤ w.heap.size + 1 + 1 by omega) _).setCell (p := ⟨w.heap.size + 1 + 1, 1, none⟩) (show w.heap.size ≤ w.heap.size + 1 + 1 by omega) _
end Go.Proofs.YtibhfcnjmilepaaDoor
