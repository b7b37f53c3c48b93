import Derived.Test.YtibhfcnjmilepaaDoorNumE
namespace Go.Proofs.YtibhfcnjmilepaaDoor
open Go.RowKit

theorem sg_neg (c : Bool) (Y : Nat) : sg (!c && decide (Y ≠ 0)) Y = - sg c Y := by
  unfold sg
  by_cases h : Y = 0
  · subst h; cases c <;> simp
  · cases c <;> simp [h]
set_option maxRecDepth 100000 in
set_option maxHeartbeats 4000000 in
theorem sub_any (b c : Bool) (X Y : Nat) (hX : (decN X).length ≤ 5000) (hY : (decN Y).length ≤ 5000) (w : World) :
    Calls Tryd.prog 28 #[smV b X, smV c Y] w fun e w' => e = .returned (intV (sg b X - sg c Y)) ∧ Below w.heap.size w w' := by
  have S1 := fun w => made_dec (!c) Y (by omega) w
  have S2 := fun w => add_any b (!c && decide (Y ≠ 0)) X Y hX hY w
  rw [sg_neg, show sg b X + -sg c Y = sg b X - sg c Y by omega] at S2
  simp only [intV_sg] at S1
  obtain ⟨z, hz⟩ : ∃ z, z = sg b X - sg c Y := ⟨_, rfl⟩
  rw [← hz] at S2 ⊢
  obtain ⟨d, hd⟩ : ∃ d, d = (!c && decide (Y ≠ 0)) := ⟨_, rfl⟩
  rw [← hd] at S1 S2
  obtain ⟨P, hP⟩ : ∃ P, P = decS X := ⟨_, rfl⟩
  obtain ⟨Q, hQ⟩ : ∃ Q, Q = decS Y := ⟨_, rfl⟩
  obtain ⟨zb, hzb⟩ : ∃ zb, zb = decide (z < 0) := ⟨_, rfl⟩
  obtain ⟨zs, hzs⟩ : ∃ zs, zs = decS z.natAbs := ⟨_, rfl⟩
  unfold intV smV at S2 ⊢
  unfold smV at S1
  rw [← hQ] at S1
  rw [← hP, ← hQ, ← hzb, ← hzs] at S2
  rw [← hP, ← hQ, ← hzb, ← hzs]
  have H1 := Lib.hid S1
  have H2 := Lib.hid S2
  clear S1 S2 hz hP hQ hzb hzs hd
  cases c
  · simp only [Bool.not_false] at H1
    go_enter Tryd.func28, Tryd.ntmps28
    go_wp2
    obtain ⟨W, hW⟩ : ∃ W, W = ((w.alloc (.cells #[.bool b, .string P] 30)).alloc (.cells #[.bool false, .string Q] 30)).alloc (.cells #[.bool false, .string ⟨#[]⟩] 30) := ⟨_, rfl⟩
    rw [← hW]
    have q0 : W.heap[w.heap.size]? = some (.cells #[.bool b, .string P] 30 (0, 0)) := by rw [hW]; exact alloc_past (alloc_past (alloc_at (by simp)) (by simp)) (by simp; omega)
    have q1 : W.heap[w.heap.size + 1]? = some (.cells #[.bool false, .string Q] 30 (0, 0)) := by rw [hW]; exact alloc_past (alloc_at (by simp)) (by simp)
    have q2 : W.heap[w.heap.size + 1 + 1]? = some (.cells #[.bool false, .string ⟨#[]⟩] 30 (0, 0)) := by rw [hW]; exact alloc_at (by simp)
    have c0 : W.cell? ⟨w.heap.size, 0, none⟩ = some (.bool b) := Lib.cell_of_heap q0 0
    have c1 : W.cell? ⟨w.heap.size, 1, none⟩ = some (.string P) := Lib.cell_of_heap q0 1
    have c2 : W.cell? ⟨w.heap.size + 1, 0, none⟩ = some (.bool false) := Lib.cell_of_heap q1 0
    have c3 : W.cell? ⟨w.heap.size + 1, 1, none⟩ = some (.string Q) := Lib.cell_of_heap q1 1
    have hz : w.heap.size + 1 + 1 < W.heap.size := by rw [hW]; simp
    have hBel : Below w.heap.size w W := by rw [hW]; exact (((Below.refl _ _).alloc (Nat.le_refl _) _).alloc (by simp) _).alloc (by simp; omega) _
    have HB := Lib.hid hBel
    have Q2 := Lib.hid q2
    clear hW q0 q1 q2 hBel
    go_region_held3 (fun w' => w'.cell? ⟨w.heap.size, 0, none⟩ = some (.bool b) ∧ w'.cell? ⟨w.heap.size, 1, none⟩ = some (.string P) ∧ w'.cell? ⟨w.heap.size + 1, 0, none⟩ = some (.bool false) ∧ w'.cell? ⟨w.heap.size + 1, 1, none⟩ = some (.string Q))
      (first | exact ⟨c0, c1, c2, c3⟩ | exact ⟨a0, a1, a2, a3⟩ | exact ⟨(set2_keep (show w.heap.size ≠ w.heap.size + 1 + 1 by omega)).trans a0, (set2_keep (show w.heap.size ≠ w.heap.size + 1 + 1 by omega)).trans a1, (set2_keep (show w.heap.size + 1 ≠ w.heap.size + 1 + 1 by omega)).trans a2, (set2_keep (show w.heap.size + 1 ≠ w.heap.size + 1 + 1 by omega)).trans a3⟩)
      (first
        | ((go_at_call 37; refine (H1.out _).mono ?_; rintro e w5 ⟨rfl, hb5⟩
            have a0 : w5.cell? ⟨w.heap.size, 0, none⟩ = some (.bool b) := (hb5.cell (p := ⟨w.heap.size, 0, none⟩) (show w.heap.size < W.heap.size by omega)).trans c0
            have a1 : w5.cell? ⟨w.heap.size, 1, none⟩ = some (.string P) := (hb5.cell (p := ⟨w.heap.size, 1, none⟩) (show w.heap.size < W.heap.size by omega)).trans c1
            have a2 : w5.cell? ⟨w.heap.size + 1, 0, none⟩ = some (.bool false) := (hb5.cell (p := ⟨w.heap.size + 1, 0, none⟩) (show w.heap.size + 1 < W.heap.size by omega)).trans c2
            have a3 : w5.cell? ⟨w.heap.size + 1, 1, none⟩ = some (.string Q) := (hb5.cell (p := ⟨w.heap.size + 1, 1, none⟩) (show w.heap.size + 1 < W.heap.size by omega)).trans c3
            have hz5 : W.heap.size ≤ w5.heap.size := hb5.size
            have HB5 := Lib.hid (HB.out.drew.trans (hb5.mono (show w.heap.size ≤ W.heap.size by omega)))
            have Q5 := Lib.hid ((hb5.block (w.heap.size + 1 + 1) hz).trans Q2.out)
            clear hb5))
        | ((go_at_call 26; refine (H2.out _).mono ?_; rintro e w6 ⟨rfl, hb6⟩
            have a0 : w6.cell? ⟨w.heap.size, 0, none⟩ = some (.bool b) := (hb6.cell (p := ⟨w.heap.size, 0, none⟩) (show w.heap.size < w5.heap.size by omega)).trans a0
            have a1 : w6.cell? ⟨w.heap.size, 1, none⟩ = some (.string P) := (hb6.cell (p := ⟨w.heap.size, 1, none⟩) (show w.heap.size < w5.heap.size by omega)).trans a1
            have a2 : w6.cell? ⟨w.heap.size + 1, 0, none⟩ = some (.bool false) := (hb6.cell (p := ⟨w.heap.size + 1, 0, none⟩) (show w.heap.size + 1 < w5.heap.size by omega)).trans a2
            have a3 : w6.cell? ⟨w.heap.size + 1, 1, none⟩ = some (.string Q) := (hb6.cell (p := ⟨w.heap.size + 1, 1, none⟩) (show w.heap.size + 1 < w5.heap.size by omega)).trans a3
            have HB6 := Lib.hid (HB5.out.trans (hb6.mono (show w.heap.size ≤ w5.heap.size by omega)))
            have q6 := (hb6.block (w.heap.size + 1 + 1) (show w.heap.size + 1 + 1 < w5.heap.size by omega)).trans Q5.out
            have z0 : w6.cell? ⟨w.heap.size + 1 + 1, 0, none⟩ = some (.bool false) := Lib.cell_of_heap q6 0
            have z1 : w6.cell? ⟨w.heap.size + 1 + 1, 1, none⟩ = some (.string ⟨#[]⟩) := Lib.cell_of_heap q6 1
            have f0 : w6.frozen? ⟨w.heap.size + 1 + 1, 0, none⟩ = false := Lib.frozen_of_heap q6 0
            have f1 : w6.frozen? ⟨w.heap.size + 1 + 1, 1, none⟩ = false := Lib.frozen_of_heap q6 1
            clear hb6 q6)))
    go_wp2
    exact bodyPost_ret (v := .agg #[.bool zb, .string zs]) (by simp [results, Tryd.results28, go_sem, z0, z1]) rfl ⟨rfl, (HB6.out.setCell (p := ⟨w.heap.size + 1 + 1, 0, none⟩) (show w.heap.size ≤ w.heap.size + 1 + 1 by omega) _).setCell (p := ⟨w.heap.size + 1 + 1, 1, none⟩) (show w.heap.size ≤ w.heap.size + 1 + 1 by omega) _⟩
  · simp only [Bool.not_true] at H1
    go_enter Tryd.func28, Tryd.ntmps28
    go_wp2
    obtain ⟨W, hW⟩ : ∃ W, W = ((w.alloc (.cells #[.bool b, .string P] 30)).alloc (.cells #[.bool true, .string Q] 30)).alloc (.cells #[.bool false, .string ⟨#[]⟩] 30) := ⟨_, rfl⟩
    rw [← hW]
    have q0 : W.heap[w.heap.size]? = some (.cells #[.bool b, .string P] 30 (0, 0)) := by rw [hW]; exact alloc_past (alloc_past (alloc_at (by simp)) (by simp)) (by simp; omega)
    have q1 : W.heap[w.heap.size + 1]? = some (.cells #[.bool true, .string Q] 30 (0, 0)) := by rw [hW]; exact alloc_past (alloc_at (by simp)) (by simp)
    have q2 : W.heap[w.heap.size + 1 + 1]? = some (.cells #[.bool false, .string ⟨#[]⟩] 30 (0, 0)) := by rw [hW]; exact alloc_at (by simp)
    have c0 : W.cell? ⟨w.heap.size, 0, none⟩ = some (.bool b) := Lib.cell_of_heap q0 0
    have c1 : W.cell? ⟨w.heap.size, 1, none⟩ = some (.string P) := Lib.cell_of_heap q0 1
    have c2 : W.cell? ⟨w.heap.size + 1, 0, none⟩ = some (.bool true) := Lib.cell_of_heap q1 0
    have c3 : W.cell? ⟨w.heap.size + 1, 1, none⟩ = some (.string Q) := Lib.cell_of_heap q1 1
    have hz : w.heap.size + 1 + 1 < W.heap.size := by rw [hW]; simp
    have hBel : Below w.heap.size w W := by rw [hW]; exact (((Below.refl _ _).alloc (Nat.le_refl _) _).alloc (by simp) _).alloc (by simp; omega) _
    have HB := Lib.hid hBel
    have Q2 := Lib.hid q2
    clear hW q0 q1 q2 hBel
    go_region_held3 (fun w' => w'.cell? ⟨w.heap.size, 0, none⟩ = some (.bool b) ∧ w'.cell? ⟨w.heap.size, 1, none⟩ = some (.string P) ∧ w'.cell? ⟨w.heap.size + 1, 0, none⟩ = some (.bool true) ∧ w'.cell? ⟨w.heap.size + 1, 1, none⟩ = some (.string Q))
      (first | exact ⟨c0, c1, c2, c3⟩ | exact ⟨a0, a1, a2, a3⟩ | exact ⟨(set2_keep (show w.heap.size ≠ w.heap.size + 1 + 1 by omega)).trans a0, (set2_keep (show w.heap.size ≠ w.heap.size + 1 + 1 by omega)).trans a1, (set2_keep (show w.heap.size + 1 ≠ w.heap.size + 1 + 1 by omega)).trans a2, (set2_keep (show w.heap.size + 1 ≠ w.heap.size + 1 + 1 by omega)).trans a3⟩)
      (first
        | ((go_at_call 37; refine (H1.out _).mono ?_; rintro e w5 ⟨rfl, hb5⟩
            have a0 : w5.cell? ⟨w.heap.size, 0, none⟩ = some (.bool b) := (hb5.cell (p := ⟨w.heap.size, 0, none⟩) (show w.heap.size < W.heap.size by omega)).trans c0
            have a1 : w5.cell? ⟨w.heap.size, 1, none⟩ = some (.string P) := (hb5.cell (p := ⟨w.heap.size, 1, none⟩) (show w.heap.size < W.heap.size by omega)).trans c1
            have a2 : w5.cell? ⟨w.heap.size + 1, 0, none⟩ = some (.bool true) := (hb5.cell (p := ⟨w.heap.size + 1, 0, none⟩) (show w.heap.size + 1 < W.heap.size by omega)).trans c2
            have a3 : w5.cell? ⟨w.heap.size + 1, 1, none⟩ = some (.string Q) := (hb5.cell (p := ⟨w.heap.size + 1, 1, none⟩) (show w.heap.size + 1 < W.heap.size by omega)).trans c3
            have hz5 : W.heap.size ≤ w5.heap.size := hb5.size
            have HB5 := Lib.hid (HB.out.drew.trans (hb5.mono (show w.heap.size ≤ W.heap.size by omega)))
            have Q5 := Lib.hid ((hb5.block (w.heap.size + 1 + 1) hz).trans Q2.out)
            clear hb5))
        | ((go_at_call 26; refine (H2.out _).mono ?_; rintro e w6 ⟨rfl, hb6⟩
            have a0 : w6.cell? ⟨w.heap.size, 0, none⟩ = some (.bool b) := (hb6.cell (p := ⟨w.heap.size, 0, none⟩) (show w.heap.size < w5.heap.size by omega)).trans a0
            have a1 : w6.cell? ⟨w.heap.size, 1, none⟩ = some (.string P) := (hb6.cell (p := ⟨w.heap.size, 1, none⟩) (show w.heap.size < w5.heap.size by omega)).trans a1
            have a2 : w6.cell? ⟨w.heap.size + 1, 0, none⟩ = some (.bool true) := (hb6.cell (p := ⟨w.heap.size + 1, 0, none⟩) (show w.heap.size + 1 < w5.heap.size by omega)).trans a2
            have a3 : w6.cell? ⟨w.heap.size + 1, 1, none⟩ = some (.string Q) := (hb6.cell (p := ⟨w.heap.size + 1, 1, none⟩) (show w.heap.size + 1 < w5.heap.size by omega)).trans a3
            have HB6 := Lib.hid (HB5.out.trans (hb6.mono (show w.heap.size ≤ w5.heap.size by omega)))
            have q6 := (hb6.block (w.heap.size + 1 + 1) (show w.heap.size + 1 + 1 < w5.heap.size by omega)).trans Q5.out
            have z0 : w6.cell? ⟨w.heap.size + 1 + 1, 0, none⟩ = some (.bool false) := Lib.cell_of_heap q6 0
            have z1 : w6.cell? ⟨w.heap.size + 1 + 1, 1, none⟩ = some (.string ⟨#[]⟩) := Lib.cell_of_heap q6 1
            have f0 : w6.frozen? ⟨w.heap.size + 1 + 1, 0, none⟩ = false := Lib.frozen_of_heap q6 0
            have f1 : w6.frozen? ⟨w.heap.size + 1 + 1, 1, none⟩ = false := Lib.frozen_of_heap q6 1
            clear hb6 q6)))
    go_wp2
    exact bodyPost_ret (v := .agg #[.bool zb, .string zs]) (by simp [results, Tryd.results28, go_sem, z0, z1]) rfl ⟨rfl, (HB6.out.setCell (p := ⟨w.heap.size + 1 + 1, 0, none⟩) (show w.heap.size ≤ w.heap.size + 1 + 1 by omega) _).setCell (p := ⟨w.heap.size + 1 + 1, 1, none⟩) (show w.heap.size ≤ w.heap.size + 1 + 1 by omega) _⟩
end Go.Proofs.YtibhfcnjmilepaaDoor
