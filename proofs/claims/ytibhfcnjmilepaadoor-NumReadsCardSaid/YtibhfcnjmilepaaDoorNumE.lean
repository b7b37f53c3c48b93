import Derived.Test.YtibhfcnjmilepaaDoorNumD
namespace Go.Proofs.YtibhfcnjmilepaaDoor
open Go.RowKit

theorem alloc_at {w : World} {cs : Array Value} {e : TypeId} {k : Nat} (hk : w.heap.size = k) : (w.alloc (.cells cs e)).heap[k]? = some (.cells cs e (0, 0)) := by
  subst hk; exact heap_alloc_new _ _
theorem alloc_past {w : World} {o x : Obj} {k : Nat} (h : w.heap[k]? = some x) (hk : k < w.heap.size) : (w.alloc o).heap[k]? = some x := (Below.heap_alloc _ _ _ hk).trans h
theorem set2_keep {w : World} {b k o : Nat} {x y : Value} (hk : k ≠ b) : ((w.setCell ⟨b, 0, none⟩ x).setCell ⟨b, 1, none⟩ y).cell? ⟨k, o, none⟩ = w.cell? ⟨k, o, none⟩ :=
  World.cell?_of_block ((Below.heap_setCell _ _ _ _ hk).trans (Below.heap_setCell _ _ _ _ hk))

set_option maxRecDepth 100000 in
set_option maxHeartbeats 4000000 in
theorem add_same (b : Bool) (X Y : Nat) (hX : (decN X).length ≤ 5000) (hY : (decN Y).length ≤ 5000) (w : World) :
    Calls Tryd.prog 26 #[smV b X, smV b Y] w fun e w' => e = .returned (intV (sg b X + sg b Y)) ∧ Below w.heap.size w w' := by
  have hl := dec_len_add hX hY
  have S1 := fun w => sum_dec X Y hX hY w
  have S2 := fun w => made_dec b (X + Y) (by omega) w
  rw [show sg b (X + Y) = sg b X + sg b Y by unfold sg; cases b <;> simp <;> omega] at S2
  obtain ⟨z, hz⟩ : ∃ z, z = sg b X + sg b Y := ⟨_, rfl⟩
  rw [← hz] at S2 ⊢
  obtain ⟨P, hP⟩ : ∃ P, P = decS X := ⟨_, rfl⟩
  obtain ⟨Q, hQ⟩ : ∃ Q, Q = decS Y := ⟨_, rfl⟩
  obtain ⟨T, hT⟩ : ∃ T, T = decS (X + Y) := ⟨_, rfl⟩
  obtain ⟨zb, hzb⟩ : ∃ zb, zb = decide (z < 0) := ⟨_, rfl⟩
  obtain ⟨zs, hzs⟩ : ∃ zs, zs = decS z.natAbs := ⟨_, rfl⟩
  unfold intV smV at S2 ⊢
  rw [← hP, ← hQ, ← hT] at S1
  rw [← hT, ← hzb, ← hzs] at S2
  rw [← hP, ← hQ, ← hzb, ← hzs]
  have H1 := Lib.hid S1
  have H2 := Lib.hid S2
  clear S1 S2 hz hP hQ hT hzb hzs hl
  cases b
  · go_enter Tryd.func26, Tryd.ntmps26
    go_wp2
    obtain ⟨W, hW⟩ : ∃ W, W = ((w.alloc (.cells #[.bool false, .string P] 30)).alloc (.cells #[.bool false, .string Q] 30)).alloc (.cells #[.bool false, .string ⟨#[]⟩] 30) := ⟨_, rfl⟩
    rw [← hW]
    have q0 : W.heap[w.heap.size]? = some (.cells #[.bool false, .string P] 30 (0, 0)) := by rw [hW]; exact alloc_past (alloc_past (alloc_at (by simp)) (by simp)) (by simp; omega)
    have q1 : W.heap[w.heap.size + 1]? = some (.cells #[.bool false, .string Q] 30 (0, 0)) := by rw [hW]; exact alloc_past (alloc_at (by simp)) (by simp)
    have q2 : W.heap[w.heap.size + 1 + 1]? = some (.cells #[.bool false, .string ⟨#[]⟩] 30 (0, 0)) := by rw [hW]; exact alloc_at (by simp)
    have c0 : W.cell? ⟨w.heap.size, 0, none⟩ = some (.bool false) := Lib.cell_of_heap q0 0
    have c1 : W.cell? ⟨w.heap.size, 1, none⟩ = some (.string P) := Lib.cell_of_heap q0 1
    have c2 : W.cell? ⟨w.heap.size + 1, 0, none⟩ = some (.bool false) := Lib.cell_of_heap q1 0
    have c3 : W.cell? ⟨w.heap.size + 1, 1, none⟩ = some (.string Q) := Lib.cell_of_heap q1 1
    have hz : w.heap.size + 1 + 1 < W.heap.size := by rw [hW]; simp
    have hBel : Below w.heap.size w W := by rw [hW]; exact (((Below.refl _ _).alloc (Nat.le_refl _) _).alloc (by simp) _).alloc (by simp; omega) _
    have HB := Lib.hid hBel
    have Q2 := Lib.hid q2
    clear hW q0 q1 q2 hBel
    go_region_held3 (fun w' => w'.cell? ⟨w.heap.size, 0, none⟩ = some (.bool false) ∧ w'.cell? ⟨w.heap.size, 1, none⟩ = some (.string P) ∧ w'.cell? ⟨w.heap.size + 1, 0, none⟩ = some (.bool false) ∧ w'.cell? ⟨w.heap.size + 1, 1, none⟩ = some (.string Q))
      (first | exact ⟨c0, c1, c2, c3⟩ | exact ⟨a0, a1, a2, a3⟩ | exact ⟨(set2_keep (show w.heap.size ≠ w.heap.size + 1 + 1 by omega)).trans a0, (set2_keep (show w.heap.size ≠ w.heap.size + 1 + 1 by omega)).trans a1, (set2_keep (show w.heap.size + 1 ≠ w.heap.size + 1 + 1 by omega)).trans a2, (set2_keep (show w.heap.size + 1 ≠ w.heap.size + 1 + 1 by omega)).trans a3⟩)
      (first
        | ((go_at_call 46; refine (H1.out _).mono ?_; rintro e w5 ⟨rfl, hb5⟩
            have a0 : w5.cell? ⟨w.heap.size, 0, none⟩ = some (.bool false) := (hb5.cell (p := ⟨w.heap.size, 0, none⟩) (show w.heap.size < W.heap.size by omega)).trans c0
            have a1 : w5.cell? ⟨w.heap.size, 1, none⟩ = some (.string P) := (hb5.cell (p := ⟨w.heap.size, 1, none⟩) (show w.heap.size < W.heap.size by omega)).trans c1
            have a2 : w5.cell? ⟨w.heap.size + 1, 0, none⟩ = some (.bool false) := (hb5.cell (p := ⟨w.heap.size + 1, 0, none⟩) (show w.heap.size + 1 < W.heap.size by omega)).trans c2
            have a3 : w5.cell? ⟨w.heap.size + 1, 1, none⟩ = some (.string Q) := (hb5.cell (p := ⟨w.heap.size + 1, 1, none⟩) (show w.heap.size + 1 < W.heap.size by omega)).trans c3
            have hz5 : W.heap.size ≤ w5.heap.size := hb5.size
            have HB5 := Lib.hid (HB.out.drew.trans (hb5.mono (show w.heap.size ≤ W.heap.size by omega)))
            have Q5 := Lib.hid ((hb5.block (w.heap.size + 1 + 1) hz).trans Q2.out)
            clear hb5))
        | ((go_at_call 37; refine (H2.out _).mono ?_; rintro e w6 ⟨rfl, hb6⟩
            have a0 : w6.cell? ⟨w.heap.size, 0, none⟩ = some (.bool false) := (hb6.cell (p := ⟨w.heap.size, 0, none⟩) (show w.heap.size < w5.heap.size by omega)).trans a0
            have a1 : w6.cell? ⟨w.heap.size, 1, none⟩ = some (.string P) := (hb6.cell (p := ⟨w.heap.size, 1, none⟩) (show w.heap.size < w5.heap.size by omega)).trans a1
            have a2 : w6.cell? ⟨w.heap.size + 1, 0, none⟩ = some (.bool false) := (hb6.cell (p := ⟨w.heap.size + 1, 0, none⟩) (show w.heap.size + 1 < w5.heap.size by omega)).trans a2
            have a3 : w6.cell? ⟨w.heap.size + 1, 1, none⟩ = some (.string Q) := (hb6.cell (p := ⟨w.heap.size + 1, 1, none⟩) (show w.heap.size + 1 < w5.heap.size by omega)).trans a3
            have HB6 := Lib.hid (HB5.out.trans (hb6.mono (show w.heap.size ≤ w5.heap.size by omega)))
            have q6 := (hb6.block (w.heap.size + 1 + 1) (show w.heap.size + 1 + 1 < w5.heap.size by omega)).trans Q5.out
            have z0 : w6.cell? ⟨w.heap.size + 1 + 1, 0, none⟩ = some (.bool false) := Lib.cell_of_heap q6 0
            have z1 : w6.cell? ⟨w.heap.size + 1 + 1, 1, none⟩ = some (.string ⟨#[]⟩) := Lib.cell_of_heap q6 1
            have f0 : w6.frozen? ⟨w.heap.size + 1 + 1, 0, none⟩ = false := Lib.frozen_of_heap q6 0
            have f1 : w6.frozen? ⟨w.heap.size + 1 + 1, 1, none⟩ = false := Lib.frozen_of_heap q6 1
            clear hb6 q6)))
    go_wp2
    exact bodyPost_ret (v := .agg #[.bool zb, .string zs]) (by simp [results, Tryd.results26, go_sem, z0, z1]) rfl ⟨rfl, (HB6.out.setCell (p := ⟨w.heap.size + 1 + 1, 0, none⟩) (show w.heap.size ≤ w.heap.size + 1 + 1 by omega) _).setCell (p := ⟨w.heap.size + 1 + 1, 1, none⟩) (show w.heap.size ≤ w.heap.size + 1 + 1 by omega) _⟩
  · go_enter Tryd.func26, Tryd.ntmps26
    go_wp2
    obtain ⟨W, hW⟩ : ∃ W, W = ((w.alloc (.cells #[.bool true, .string P] 30)).alloc (.cells #[.bool true, .string Q] 30)).alloc (.cells #[.bool false, .string ⟨#[]⟩] 30) := ⟨_, rfl⟩
    rw [← hW]
    have q0 : W.heap[w.heap.size]? = some (.cells #[.bool true, .string P] 30 (0, 0)) := by rw [hW]; exact alloc_past (alloc_past (alloc_at (by simp)) (by simp)) (by simp; omega)
    have q1 : W.heap[w.heap.size + 1]? = some (.cells #[.bool true, .string Q] 30 (0, 0)) := by rw [hW]; exact alloc_past (alloc_at (by simp)) (by simp)
    have q2 : W.heap[w.heap.size + 1 + 1]? = some (.cells #[.bool false, .string ⟨#[]⟩] 30 (0, 0)) := by rw [hW]; exact alloc_at (by simp)
    have c0 : W.cell? ⟨w.heap.size, 0, none⟩ = some (.bool true) := Lib.cell_of_heap q0 0
    have c1 : W.cell? ⟨w.heap.size, 1, none⟩ = some (.string P) := Lib.cell_of_heap q0 1
    have c2 : W.cell? ⟨w.heap.size + 1, 0, none⟩ = some (.bool true) := Lib.cell_of_heap q1 0
    have c3 : W.cell? ⟨w.heap.size + 1, 1, none⟩ = some (.string Q) := Lib.cell_of_heap q1 1
    have hz : w.heap.size + 1 + 1 < W.heap.size := by rw [hW]; simp
    have hBel : Below w.heap.size w W := by rw [hW]; exact (((Below.refl _ _).alloc (Nat.le_refl _) _).alloc (by simp) _).alloc (by simp; omega) _
    have HB := Lib.hid hBel
    have Q2 := Lib.hid q2
    clear hW q0 q1 q2 hBel
    go_region_held3 (fun w' => w'.cell? ⟨w.heap.size, 0, none⟩ = some (.bool true) ∧ w'.cell? ⟨w.heap.size, 1, none⟩ = some (.string P) ∧ w'.cell? ⟨w.heap.size + 1, 0, none⟩ = some (.bool true) ∧ w'.cell? ⟨w.heap.size + 1, 1, none⟩ = some (.string Q))
      (first | exact ⟨c0, c1, c2, c3⟩ | exact ⟨a0, a1, a2, a3⟩ | exact ⟨(set2_keep (show w.heap.size ≠ w.heap.size + 1 + 1 by omega)).trans a0, (set2_keep (show w.heap.size ≠ w.heap.size + 1 + 1 by omega)).trans a1, (set2_keep (show w.heap.size + 1 ≠ w.heap.size + 1 + 1 by omega)).trans a2, (set2_keep (show w.heap.size + 1 ≠ w.heap.size + 1 + 1 by omega)).trans a3⟩)
      (first
        | ((go_at_call 46; refine (H1.out _).mono ?_; rintro e w5 ⟨rfl, hb5⟩
            have a0 : w5.cell? ⟨w.heap.size, 0, none⟩ = some (.bool true) := (hb5.cell (p := ⟨w.heap.size, 0, none⟩) (show w.heap.size < W.heap.size by omega)).trans c0
            have a1 : w5.cell? ⟨w.heap.size, 1, none⟩ = some (.string P) := (hb5.cell (p := ⟨w.heap.size, 1, none⟩) (show w.heap.size < W.heap.size by omega)).trans c1
            have a2 : w5.cell? ⟨w.heap.size + 1, 0, none⟩ = some (.bool true) := (hb5.cell (p := ⟨w.heap.size + 1, 0, none⟩) (show w.heap.size + 1 < W.heap.size by omega)).trans c2
            have a3 : w5.cell? ⟨w.heap.size + 1, 1, none⟩ = some (.string Q) := (hb5.cell (p := ⟨w.heap.size + 1, 1, none⟩) (show w.heap.size + 1 < W.heap.size by omega)).trans c3
            have hz5 : W.heap.size ≤ w5.heap.size := hb5.size
            have HB5 := Lib.hid (HB.out.drew.trans (hb5.mono (show w.heap.size ≤ W.heap.size by omega)))
            have Q5 := Lib.hid ((hb5.block (w.heap.size + 1 + 1) hz).trans Q2.out)
            clear hb5))
        | ((go_at_call 37; refine (H2.out _).mono ?_; rintro e w6 ⟨rfl, hb6⟩
            have a0 : w6.cell? ⟨w.heap.size, 0, none⟩ = some (.bool true) := (hb6.cell (p := ⟨w.heap.size, 0, none⟩) (show w.heap.size < w5.heap.size by omega)).trans a0
            have a1 : w6.cell? ⟨w.heap.size, 1, none⟩ = some (.string P) := (hb6.cell (p := ⟨w.heap.size, 1, none⟩) (show w.heap.size < w5.heap.size by omega)).trans a1
            have a2 : w6.cell? ⟨w.heap.size + 1, 0, none⟩ = some (.bool true) := (hb6.cell (p := ⟨w.heap.size + 1, 0, none⟩) (show w.heap.size + 1 < w5.heap.size by omega)).trans a2
            have a3 : w6.cell? ⟨w.heap.size + 1, 1, none⟩ = some (.string Q) := (hb6.cell (p := ⟨w.heap.size + 1, 1, none⟩) (show w.heap.size + 1 < w5.heap.size by omega)).trans a3
            have HB6 := Lib.hid (HB5.out.trans (hb6.mono (show w.heap.size ≤ w5.heap.size by omega)))
            have q6 := (hb6.block (w.heap.size + 1 + 1) (show w.heap.size + 1 + 1 < w5.heap.size by omega)).trans Q5.out
            have z0 : w6.cell? ⟨w.heap.size + 1 + 1, 0, none⟩ = some (.bool false) := Lib.cell_of_heap q6 0
            have z1 : w6.cell? ⟨w.heap.size + 1 + 1, 1, none⟩ = some (.string ⟨#[]⟩) := Lib.cell_of_heap q6 1
            have f0 : w6.frozen? ⟨w.heap.size + 1 + 1, 0, none⟩ = false := Lib.frozen_of_heap q6 0
            have f1 : w6.frozen? ⟨w.heap.size + 1 + 1, 1, none⟩ = false := Lib.frozen_of_heap q6 1
            clear hb6 q6)))
    go_wp2
    exact bodyPost_ret (v := .agg #[.bool zb, .string zs]) (by simp [results, Tryd.results26, go_sem, z0, z1]) rfl ⟨rfl, (HB6.out.setCell (p := ⟨w.heap.size + 1 + 1, 0, none⟩) (show w.heap.size ≤ w.heap.size + 1 + 1 by omega) _).setCell (p := ⟨w.heap.size + 1 + 1, 1, none⟩) (show w.heap.size ≤ w.heap.size + 1 + 1 by omega) _⟩

set_option maxRecDepth 100000 in
set_option maxHeartbeats 4000000 in
theorem add_lt (b c : Bool) (hbc : c = !b) (X Y : Nat) (hX : (decN X).length ≤ 5000) (hY : (decN Y).length ≤ 5000) (hlt : X < Y) (w : World) :
    Calls Tryd.prog 26 #[smV b X, smV c Y] w fun e w' => e = .returned (intV (sg b X + sg c Y)) ∧ Below w.heap.size w w' := by
  subst hbc
  have S0 := fun w => less_dec_any X Y w
  have S1 := fun w => without_dec Y X hY hX (by omega) w
  have S2 := fun w => made_dec (!b) (Y - X) (by have := dec_len_mono hY (show Y - X ≤ Y by omega); omega) w
  rw [show sg (!b) (Y - X) = sg b X + sg (!b) Y by unfold sg; cases b <;> simp <;> omega] at S2
  rw [decide_eq_true hlt] at S0
  obtain ⟨z, hz⟩ : ∃ z, z = sg b X + sg (!b) Y := ⟨_, rfl⟩
  rw [← hz] at S2 ⊢
  obtain ⟨P, hP⟩ : ∃ P, P = decS X := ⟨_, rfl⟩
  obtain ⟨Q, hQ⟩ : ∃ Q, Q = decS Y := ⟨_, rfl⟩
  obtain ⟨T, hT⟩ : ∃ T, T = decS (Y - X) := ⟨_, rfl⟩
  obtain ⟨zb, hzb⟩ : ∃ zb, zb = decide (z < 0) := ⟨_, rfl⟩
  obtain ⟨zs, hzs⟩ : ∃ zs, zs = decS z.natAbs := ⟨_, rfl⟩
  unfold intV smV at S2 ⊢
  rw [← hP, ← hQ] at S0
  rw [← hP, ← hQ, ← hT] at S1
  rw [← hT, ← hzb, ← hzs] at S2
  rw [← hP, ← hQ, ← hzb, ← hzs]
  have H0 := Lib.hid S0
  have H1 := Lib.hid S1
  have H2 := Lib.hid S2
  clear S0 S1 S2 hz hP hQ hT hzb hzs hlt
  cases b
  · simp only [Bool.not_false] at H2 ⊢
    go_enter Tryd.func26, Tryd.ntmps26
    go_wp2_with fail
    refine (H0.out _).mono ?_
    rintro e w' ⟨rfl, rfl⟩
    go_wp2
    obtain ⟨W, hW⟩ : ∃ W, W = ((w.alloc (.cells #[.bool false, .string P] 30)).alloc (.cells #[.bool true, .string Q] 30)).alloc (.cells #[.bool false, .string ⟨#[]⟩] 30) := ⟨_, rfl⟩
    rw [← hW]
    have q0 : W.heap[w.heap.size]? = some (.cells #[.bool false, .string P] 30 (0, 0)) := by rw [hW]; exact alloc_past (alloc_past (alloc_at (by simp)) (by simp)) (by simp; omega)
    have q1 : W.heap[w.heap.size + 1]? = some (.cells #[.bool true, .string Q] 30 (0, 0)) := by rw [hW]; exact alloc_past (alloc_at (by simp)) (by simp)
    have q2 : W.heap[w.heap.size + 1 + 1]? = some (.cells #[.bool false, .string ⟨#[]⟩] 30 (0, 0)) := by rw [hW]; exact alloc_at (by simp)
    have c0 : W.cell? ⟨w.heap.size, 0, none⟩ = some (.bool false) := Lib.cell_of_heap q0 0
    have c1 : W.cell? ⟨w.heap.size, 1, none⟩ = some (.string P) := Lib.cell_of_heap q0 1
    have c2 : W.cell? ⟨w.heap.size + 1, 0, none⟩ = some (.bool true) := Lib.cell_of_heap q1 0
    have c3 : W.cell? ⟨w.heap.size + 1, 1, none⟩ = some (.string Q) := Lib.cell_of_heap q1 1
    have hz : w.heap.size + 1 + 1 < W.heap.size := by rw [hW]; simp
    have hBel : Below w.heap.size w W := by rw [hW]; exact (((Below.refl _ _).alloc (Nat.le_refl _) _).alloc (by simp) _).alloc (by simp; omega) _
    have HB := Lib.hid hBel
    have Q2 := Lib.hid q2
    clear hW q0 q1 q2 hBel
    go_region_held3 (fun w' => w'.cell? ⟨w.heap.size, 0, none⟩ = some (.bool false) ∧ w'.cell? ⟨w.heap.size, 1, none⟩ = some (.string P) ∧ w'.cell? ⟨w.heap.size + 1, 0, none⟩ = some (.bool true) ∧ w'.cell? ⟨w.heap.size + 1, 1, none⟩ = some (.string Q))
      (first | exact ⟨c0, c1, c2, c3⟩ | exact ⟨a0, a1, a2, a3⟩ | exact ⟨(set2_keep (show w.heap.size ≠ w.heap.size + 1 + 1 by omega)).trans a0, (set2_keep (show w.heap.size ≠ w.heap.size + 1 + 1 by omega)).trans a1, (set2_keep (show w.heap.size + 1 ≠ w.heap.size + 1 + 1 by omega)).trans a2, (set2_keep (show w.heap.size + 1 ≠ w.heap.size + 1 + 1 by omega)).trans a3⟩)
      (first
        | ((go_at_call 48; refine (H1.out _).mono ?_; rintro e w5 ⟨rfl, hb5⟩
            have a0 : w5.cell? ⟨w.heap.size, 0, none⟩ = some (.bool false) := (hb5.cell (p := ⟨w.heap.size, 0, none⟩) (show w.heap.size < W.heap.size by omega)).trans c0
            have a1 : w5.cell? ⟨w.heap.size, 1, none⟩ = some (.string P) := (hb5.cell (p := ⟨w.heap.size, 1, none⟩) (show w.heap.size < W.heap.size by omega)).trans c1
            have a2 : w5.cell? ⟨w.heap.size + 1, 0, none⟩ = some (.bool true) := (hb5.cell (p := ⟨w.heap.size + 1, 0, none⟩) (show w.heap.size + 1 < W.heap.size by omega)).trans c2
            have a3 : w5.cell? ⟨w.heap.size + 1, 1, none⟩ = some (.string Q) := (hb5.cell (p := ⟨w.heap.size + 1, 1, none⟩) (show w.heap.size + 1 < W.heap.size by omega)).trans c3
            have hz5 : W.heap.size ≤ w5.heap.size := hb5.size
            have HB5 := Lib.hid (HB.out.drew.trans (hb5.mono (show w.heap.size ≤ W.heap.size by omega)))
            have Q5 := Lib.hid ((hb5.block (w.heap.size + 1 + 1) hz).trans Q2.out)
            clear hb5))
        | ((go_at_call 37; refine (H2.out _).mono ?_; rintro e w6 ⟨rfl, hb6⟩
            have a0 : w6.cell? ⟨w.heap.size, 0, none⟩ = some (.bool false) := (hb6.cell (p := ⟨w.heap.size, 0, none⟩) (show w.heap.size < w5.heap.size by omega)).trans a0
            have a1 : w6.cell? ⟨w.heap.size, 1, none⟩ = some (.string P) := (hb6.cell (p := ⟨w.heap.size, 1, none⟩) (show w.heap.size < w5.heap.size by omega)).trans a1
            have a2 : w6.cell? ⟨w.heap.size + 1, 0, none⟩ = some (.bool true) := (hb6.cell (p := ⟨w.heap.size + 1, 0, none⟩) (show w.heap.size + 1 < w5.heap.size by omega)).trans a2
            have a3 : w6.cell? ⟨w.heap.size + 1, 1, none⟩ = some (.string Q) := (hb6.cell (p := ⟨w.heap.size + 1, 1, none⟩) (show w.heap.size + 1 < w5.heap.size by omega)).trans a3
            have HB6 := Lib.hid (HB5.out.trans (hb6.mono (show w.heap.size ≤ w5.heap.size by omega)))
            have q6 := (hb6.block (w.heap.size + 1 + 1) (show w.heap.size + 1 + 1 < w5.heap.size by omega)).trans Q5.out
            have z0 : w6.cell? ⟨w.heap.size + 1 + 1, 0, none⟩ = some (.bool false) := Lib.cell_of_heap q6 0
            have z1 : w6.cell? ⟨w.heap.size + 1 + 1, 1, none⟩ = some (.string ⟨#[]⟩) := Lib.cell_of_heap q6 1
            have f0 : w6.frozen? ⟨w.heap.size + 1 + 1, 0, none⟩ = false := Lib.frozen_of_heap q6 0
            have f1 : w6.frozen? ⟨w.heap.size + 1 + 1, 1, none⟩ = false := Lib.frozen_of_heap q6 1
            clear hb6 q6)))
    go_wp2
    exact bodyPost_ret (v := .agg #[.bool zb, .string zs]) (by simp [results, Tryd.results26, go_sem, z0, z1]) rfl ⟨rfl, (HB6.out.setCell (p := ⟨w.heap.size + 1 + 1, 0, none⟩) (show w.heap.size ≤ w.heap.size + 1 + 1 by omega) _).setCell (p := ⟨w.heap.size + 1 + 1, 1, none⟩) (show w.heap.size ≤ w.heap.size + 1 + 1 by omega) _⟩
  · simp only [Bool.not_true] at H2 ⊢
    go_enter Tryd.func26, Tryd.ntmps26
    go_wp2_with fail
    refine (H0.out _).mono ?_
    rintro e w' ⟨rfl, rfl⟩
    go_wp2
    obtain ⟨W, hW⟩ : ∃ W, W = ((w.alloc (.cells #[.bool true, .string P] 30)).alloc (.cells #[.bool false, .string Q] 30)).alloc (.cells #[.bool false, .string ⟨#[]⟩] 30) := ⟨_, rfl⟩
    rw [← hW]
    have q0 : W.heap[w.heap.size]? = some (.cells #[.bool true, .string P] 30 (0, 0)) := by rw [hW]; exact alloc_past (alloc_past (alloc_at (by simp)) (by simp)) (by simp; omega)
    have q1 : W.heap[w.heap.size + 1]? = some (.cells #[.bool false, .string Q] 30 (0, 0)) := by rw [hW]; exact alloc_past (alloc_at (by simp)) (by simp)
    have q2 : W.heap[w.heap.size + 1 + 1]? = some (.cells #[.bool false, .string ⟨#[]⟩] 30 (0, 0)) := by rw [hW]; exact alloc_at (by simp)
    have c0 : W.cell? ⟨w.heap.size, 0, none⟩ = some (.bool true) := Lib.cell_of_heap q0 0
    have c1 : W.cell? ⟨w.heap.size, 1, none⟩ = some (.string P) := Lib.cell_of_heap q0 1
    have c2 : W.cell? ⟨w.heap.size + 1, 0, none⟩ = some (.bool false) := Lib.cell_of_heap q1 0
    have c3 : W.cell? ⟨w.heap.size + 1, 1, none⟩ = some (.string Q) := Lib.cell_of_heap q1 1
    have hz : w.heap.size + 1 + 1 < W.heap.size := by rw [hW]; simp
    have hBel : Below w.heap.size w W := by rw [hW]; exact (((Below.refl _ _).alloc (Nat.le_refl _) _).alloc (by simp) _).alloc (by simp; omega) _
    have HB := Lib.hid hBel
    have Q2 := Lib.hid q2
    clear hW q0 q1 q2 hBel
    go_region_held3 (fun w' => w'.cell? ⟨w.heap.size, 0, none⟩ = some (.bool true) ∧ w'.cell? ⟨w.heap.size, 1, none⟩ = some (.string P) ∧ w'.cell? ⟨w.heap.size + 1, 0, none⟩ = some (.bool false) ∧ w'.cell? ⟨w.heap.size + 1, 1, none⟩ = some (.string Q))
      (first | exact ⟨c0, c1, c2, c3⟩ | exact ⟨a0, a1, a2, a3⟩ | exact ⟨(set2_keep (show w.heap.size ≠ w.heap.size + 1 + 1 by omega)).trans a0, (set2_keep (show w.heap.size ≠ w.heap.size + 1 + 1 by omega)).trans a1, (set2_keep (show w.heap.size + 1 ≠ w.heap.size + 1 + 1 by omega)).trans a2, (set2_keep (show w.heap.size + 1 ≠ w.heap.size + 1 + 1 by omega)).trans a3⟩)
      (first
        | ((go_at_call 48; refine (H1.out _).mono ?_; rintro e w5 ⟨rfl, hb5⟩
            have a0 : w5.cell? ⟨w.heap.size, 0, none⟩ = some (.bool true) := (hb5.cell (p := ⟨w.heap.size, 0, none⟩) (show w.heap.size < W.heap.size by omega)).trans c0
            have a1 : w5.cell? ⟨w.heap.size, 1, none⟩ = some (.string P) := (hb5.cell (p := ⟨w.heap.size, 1, none⟩) (show w.heap.size < W.heap.size by omega)).trans c1
            have a2 : w5.cell? ⟨w.heap.size + 1, 0, none⟩ = some (.bool false) := (hb5.cell (p := ⟨w.heap.size + 1, 0, none⟩) (show w.heap.size + 1 < W.heap.size by omega)).trans c2
            have a3 : w5.cell? ⟨w.heap.size + 1, 1, none⟩ = some (.string Q) := (hb5.cell (p := ⟨w.heap.size + 1, 1, none⟩) (show w.heap.size + 1 < W.heap.size by omega)).trans c3
            have hz5 : W.heap.size ≤ w5.heap.size := hb5.size
            have HB5 := Lib.hid (HB.out.drew.trans (hb5.mono (show w.heap.size ≤ W.heap.size by omega)))
            have Q5 := Lib.hid ((hb5.block (w.heap.size + 1 + 1) hz).trans Q2.out)
            clear hb5))
        | ((go_at_call 37; refine (H2.out _).mono ?_; rintro e w6 ⟨rfl, hb6⟩
            have a0 : w6.cell? ⟨w.heap.size, 0, none⟩ = some (.bool true) := (hb6.cell (p := ⟨w.heap.size, 0, none⟩) (show w.heap.size < w5.heap.size by omega)).trans a0
            have a1 : w6.cell? ⟨w.heap.size, 1, none⟩ = some (.string P) := (hb6.cell (p := ⟨w.heap.size, 1, none⟩) (show w.heap.size < w5.heap.size by omega)).trans a1
            have a2 : w6.cell? ⟨w.heap.size + 1, 0, none⟩ = some (.bool false) := (hb6.cell (p := ⟨w.heap.size + 1, 0, none⟩) (show w.heap.size + 1 < w5.heap.size by omega)).trans a2
            have a3 : w6.cell? ⟨w.heap.size + 1, 1, none⟩ = some (.string Q) := (hb6.cell (p := ⟨w.heap.size + 1, 1, none⟩) (show w.heap.size + 1 < w5.heap.size by omega)).trans a3
            have HB6 := Lib.hid (HB5.out.trans (hb6.mono (show w.heap.size ≤ w5.heap.size by omega)))
            have q6 := (hb6.block (w.heap.size + 1 + 1) (show w.heap.size + 1 + 1 < w5.heap.size by omega)).trans Q5.out
            have z0 : w6.cell? ⟨w.heap.size + 1 + 1, 0, none⟩ = some (.bool false) := Lib.cell_of_heap q6 0
            have z1 : w6.cell? ⟨w.heap.size + 1 + 1, 1, none⟩ = some (.string ⟨#[]⟩) := Lib.cell_of_heap q6 1
            have f0 : w6.frozen? ⟨w.heap.size + 1 + 1, 0, none⟩ = false := Lib.frozen_of_heap q6 0
            have f1 : w6.frozen? ⟨w.heap.size + 1 + 1, 1, none⟩ = false := Lib.frozen_of_heap q6 1
            clear hb6 q6)))
    go_wp2
    exact bodyPost_ret (v := .agg #[.bool zb, .string zs]) (by simp [results, Tryd.results26, go_sem, z0, z1]) rfl ⟨rfl, (HB6.out.setCell (p := ⟨w.heap.size + 1 + 1, 0, none⟩) (show w.heap.size ≤ w.heap.size + 1 + 1 by omega) _).setCell (p := ⟨w.heap.size + 1 + 1, 1, none⟩) (show w.heap.size ≤ w.heap.size + 1 + 1 by omega) _⟩

set_option maxRecDepth 100000 in
set_option maxHeartbeats 4000000 in
theorem add_ge (b c : Bool) (hbc : c = !b) (X Y : Nat) (hX : (decN X).length ≤ 5000) (hY : (decN Y).length ≤ 5000) (hlt : ¬ X < Y) (w : World) :
    Calls Tryd.prog 26 #[smV b X, smV c Y] w fun e w' => e = .returned (intV (sg b X + sg c Y)) ∧ Below w.heap.size w w' := by
  subst hbc
  have S0 := fun w => less_dec_any X Y w
  have S1 := fun w => without_dec X Y hX hY (by omega) w
  have S2 := fun w => made_dec b (X - Y) (by have := dec_len_mono hX (show X - Y ≤ X by omega); omega) w
  rw [show sg b (X - Y) = sg b X + sg (!b) Y by unfold sg; cases b <;> simp <;> omega] at S2
  rw [decide_eq_false hlt] at S0
  obtain ⟨z, hz⟩ : ∃ z, z = sg b X + sg (!b) Y := ⟨_, rfl⟩
  rw [← hz] at S2 ⊢
  obtain ⟨P, hP⟩ : ∃ P, P = decS X := ⟨_, rfl⟩
  obtain ⟨Q, hQ⟩ : ∃ Q, Q = decS Y := ⟨_, rfl⟩
  obtain ⟨T, hT⟩ : ∃ T, T = decS (X - Y) := ⟨_, rfl⟩
  obtain ⟨zb, hzb⟩ : ∃ zb, zb = decide (z < 0) := ⟨_, rfl⟩
  obtain ⟨zs, hzs⟩ : ∃ zs, zs = decS z.natAbs := ⟨_, rfl⟩
  unfold intV smV at S2 ⊢
  rw [← hP, ← hQ] at S0
  rw [← hP, ← hQ, ← hT] at S1
  rw [← hT, ← hzb, ← hzs] at S2
  rw [← hP, ← hQ, ← hzb, ← hzs]
  have H0 := Lib.hid S0
  have H1 := Lib.hid S1
  have H2 := Lib.hid S2
  clear S0 S1 S2 hz hP hQ hT hzb hzs hlt
  cases b
  · simp only [Bool.not_false] at H2 ⊢
    go_enter Tryd.func26, Tryd.ntmps26
    go_wp2_with fail
    refine (H0.out _).mono ?_
    rintro e w' ⟨rfl, rfl⟩
    go_wp2
    obtain ⟨W, hW⟩ : ∃ W, W = ((w.alloc (.cells #[.bool false, .string P] 30)).alloc (.cells #[.bool true, .string Q] 30)).alloc (.cells #[.bool false, .string ⟨#[]⟩] 30) := ⟨_, rfl⟩
    rw [← hW]
    have q0 : W.heap[w.heap.size]? = some (.cells #[.bool false, .string P] 30 (0, 0)) := by rw [hW]; exact alloc_past (alloc_past (alloc_at (by simp)) (by simp)) (by simp; omega)
    have q1 : W.heap[w.heap.size + 1]? = some (.cells #[.bool true, .string Q] 30 (0, 0)) := by rw [hW]; exact alloc_past (alloc_at (by simp)) (by simp)
    have q2 : W.heap[w.heap.size + 1 + 1]? = some (.cells #[.bool false, .string ⟨#[]⟩] 30 (0, 0)) := by rw [hW]; exact alloc_at (by simp)
    have c0 : W.cell? ⟨w.heap.size, 0, none⟩ = some (.bool false) := Lib.cell_of_heap q0 0
    have c1 : W.cell? ⟨w.heap.size, 1, none⟩ = some (.string P) := Lib.cell_of_heap q0 1
    have c2 : W.cell? ⟨w.heap.size + 1, 0, none⟩ = some (.bool true) := Lib.cell_of_heap q1 0
    have c3 : W.cell? ⟨w.heap.size + 1, 1, none⟩ = some (.string Q) := Lib.cell_of_heap q1 1
    have hz : w.heap.size + 1 + 1 < W.heap.size := by rw [hW]; simp
    have hBel : Below w.heap.size w W := by rw [hW]; exact (((Below.refl _ _).alloc (Nat.le_refl _) _).alloc (by simp) _).alloc (by simp; omega) _
    have HB := Lib.hid hBel
    have Q2 := Lib.hid q2
    clear hW q0 q1 q2 hBel
    go_region_held3 (fun w' => w'.cell? ⟨w.heap.size, 0, none⟩ = some (.bool false) ∧ w'.cell? ⟨w.heap.size, 1, none⟩ = some (.string P) ∧ w'.cell? ⟨w.heap.size + 1, 0, none⟩ = some (.bool true) ∧ w'.cell? ⟨w.heap.size + 1, 1, none⟩ = some (.string Q))
      (first | exact ⟨c0, c1, c2, c3⟩ | exact ⟨a0, a1, a2, a3⟩ | exact ⟨(set2_keep (show w.heap.size ≠ w.heap.size + 1 + 1 by omega)).trans a0, (set2_keep (show w.heap.size ≠ w.heap.size + 1 + 1 by omega)).trans a1, (set2_keep (show w.heap.size + 1 ≠ w.heap.size + 1 + 1 by omega)).trans a2, (set2_keep (show w.heap.size + 1 ≠ w.heap.size + 1 + 1 by omega)).trans a3⟩)
      (first
        | ((go_at_call 48; refine (H1.out _).mono ?_; rintro e w5 ⟨rfl, hb5⟩
            have a0 : w5.cell? ⟨w.heap.size, 0, none⟩ = some (.bool false) := (hb5.cell (p := ⟨w.heap.size, 0, none⟩) (show w.heap.size < W.heap.size by omega)).trans c0
            have a1 : w5.cell? ⟨w.heap.size, 1, none⟩ = some (.string P) := (hb5.cell (p := ⟨w.heap.size, 1, none⟩) (show w.heap.size < W.heap.size by omega)).trans c1
            have a2 : w5.cell? ⟨w.heap.size + 1, 0, none⟩ = some (.bool true) := (hb5.cell (p := ⟨w.heap.size + 1, 0, none⟩) (show w.heap.size + 1 < W.heap.size by omega)).trans c2
            have a3 : w5.cell? ⟨w.heap.size + 1, 1, none⟩ = some (.string Q) := (hb5.cell (p := ⟨w.heap.size + 1, 1, none⟩) (show w.heap.size + 1 < W.heap.size by omega)).trans c3
            have hz5 : W.heap.size ≤ w5.heap.size := hb5.size
            have HB5 := Lib.hid (HB.out.drew.trans (hb5.mono (show w.heap.size ≤ W.heap.size by omega)))
            have Q5 := Lib.hid ((hb5.block (w.heap.size + 1 + 1) hz).trans Q2.out)
            clear hb5))
        | ((go_at_call 37; refine (H2.out _).mono ?_; rintro e w6 ⟨rfl, hb6⟩
            have a0 : w6.cell? ⟨w.heap.size, 0, none⟩ = some (.bool false) := (hb6.cell (p := ⟨w.heap.size, 0, none⟩) (show w.heap.size < w5.heap.size by omega)).trans a0
            have a1 : w6.cell? ⟨w.heap.size, 1, none⟩ = some (.string P) := (hb6.cell (p := ⟨w.heap.size, 1, none⟩) (show w.heap.size < w5.heap.size by omega)).trans a1
            have a2 : w6.cell? ⟨w.heap.size + 1, 0, none⟩ = some (.bool true) := (hb6.cell (p := ⟨w.heap.size + 1, 0, none⟩) (show w.heap.size + 1 < w5.heap.size by omega)).trans a2
            have a3 : w6.cell? ⟨w.heap.size + 1, 1, none⟩ = some (.string Q) := (hb6.cell (p := ⟨w.heap.size + 1, 1, none⟩) (show w.heap.size + 1 < w5.heap.size by omega)).trans a3
            have HB6 := Lib.hid (HB5.out.trans (hb6.mono (show w.heap.size ≤ w5.heap.size by omega)))
            have q6 := (hb6.block (w.heap.size + 1 + 1) (show w.heap.size + 1 + 1 < w5.heap.size by omega)).trans Q5.out
            have z0 : w6.cell? ⟨w.heap.size + 1 + 1, 0, none⟩ = some (.bool false) := Lib.cell_of_heap q6 0
            have z1 : w6.cell? ⟨w.heap.size + 1 + 1, 1, none⟩ = some (.string ⟨#[]⟩) := Lib.cell_of_heap q6 1
            have f0 : w6.frozen? ⟨w.heap.size + 1 + 1, 0, none⟩ = false := Lib.frozen_of_heap q6 0
            have f1 : w6.frozen? ⟨w.heap.size + 1 + 1, 1, none⟩ = false := Lib.frozen_of_heap q6 1
            clear hb6 q6)))
    go_wp2
    exact bodyPost_ret (v := .agg #[.bool zb, .string zs]) (by simp [results, Tryd.results26, go_sem, z0, z1]) rfl ⟨rfl, (HB6.out.setCell (p := ⟨w.heap.size + 1 + 1, 0, none⟩) (show w.heap.size ≤ w.heap.size + 1 + 1 by omega) _).setCell (p := ⟨w.heap.size + 1 + 1, 1, none⟩) (show w.heap.size ≤ w.heap.size + 1 + 1 by omega) _⟩
  · simp only [Bool.not_true] at H2 ⊢
    go_enter Tryd.func26, Tryd.ntmps26
    go_wp2_with fail
    refine (H0.out _).mono ?_
    rintro e w' ⟨rfl, rfl⟩
    go_wp2
    obtain ⟨W, hW⟩ : ∃ W, W = ((w.alloc (.cells #[.bool true, .string P] 30)).alloc (.cells #[.bool false, .string Q] 30)).alloc (.cells #[.bool false, .string ⟨#[]⟩] 30) := ⟨_, rfl⟩
    rw [← hW]
    have q0 : W.heap[w.heap.size]? = some (.cells #[.bool true, .string P] 30 (0, 0)) := by rw [hW]; exact alloc_past (alloc_past (alloc_at (by simp)) (by simp)) (by simp; omega)
    have q1 : W.heap[w.heap.size + 1]? = some (.cells #[.bool false, .string Q] 30 (0, 0)) := by rw [hW]; exact alloc_past (alloc_at (by simp)) (by simp)
    have q2 : W.heap[w.heap.size + 1 + 1]? = some (.cells #[.bool false, .string ⟨#[]⟩] 30 (0, 0)) := by rw [hW]; exact alloc_at (by simp)
    have c0 : W.cell? ⟨w.heap.size, 0, none⟩ = some (.bool true) := Lib.cell_of_heap q0 0
    have c1 : W.cell? ⟨w.heap.size, 1, none⟩ = some (.string P) := Lib.cell_of_heap q0 1
    have c2 : W.cell? ⟨w.heap.size + 1, 0, none⟩ = some (.bool false) := Lib.cell_of_heap q1 0
    have c3 : W.cell? ⟨w.heap.size + 1, 1, none⟩ = some (.string Q) := Lib.cell_of_heap q1 1
    have hz : w.heap.size + 1 + 1 < W.heap.size := by rw [hW]; simp
    have hBel : Below w.heap.size w W := by rw [hW]; exact (((Below.refl _ _).alloc (Nat.le_refl _) _).alloc (by simp) _).alloc (by simp; omega) _
    have HB := Lib.hid hBel
    have Q2 := Lib.hid q2
    clear hW q0 q1 q2 hBel
    go_region_held3 (fun w' => w'.cell? ⟨w.heap.size, 0, none⟩ = some (.bool true) ∧ w'.cell? ⟨w.heap.size, 1, none⟩ = some (.string P) ∧ w'.cell? ⟨w.heap.size + 1, 0, none⟩ = some (.bool false) ∧ w'.cell? ⟨w.heap.size + 1, 1, none⟩ = some (.string Q))
      (first | exact ⟨c0, c1, c2, c3⟩ | exact ⟨a0, a1, a2, a3⟩ | exact ⟨(set2_keep (show w.heap.size ≠ w.heap.size + 1 + 1 by omega)).trans a0, (set2_keep (show w.heap.size ≠ w.heap.size + 1 + 1 by omega)).trans a1, (set2_keep (show w.heap.size + 1 ≠ w.heap.size + 1 + 1 by omega)).trans a2, (set2_keep (show w.heap.size + 1 ≠ w.heap.size + 1 + 1 by omega)).trans a3⟩)
      (first
        | ((go_at_call 48; refine (H1.out _).mono ?_; rintro e w5 ⟨rfl, hb5⟩
            have a0 : w5.cell? ⟨w.heap.size, 0, none⟩ = some (.bool true) := (hb5.cell (p := ⟨w.heap.size, 0, none⟩) (show w.heap.size < W.heap.size by omega)).trans c0
            have a1 : w5.cell? ⟨w.heap.size, 1, none⟩ = some (.string P) := (hb5.cell (p := ⟨w.heap.size, 1, none⟩) (show w.heap.size < W.heap.size by omega)).trans c1
            have a2 : w5.cell? ⟨w.heap.size + 1, 0, none⟩ = some (.bool false) := (hb5.cell (p := ⟨w.heap.size + 1, 0, none⟩) (show w.heap.size + 1 < W.heap.size by omega)).trans c2
            have a3 : w5.cell? ⟨w.heap.size + 1, 1, none⟩ = some (.string Q) := (hb5.cell (p := ⟨w.heap.size + 1, 1, none⟩) (show w.heap.size + 1 < W.heap.size by omega)).trans c3
            have hz5 : W.heap.size ≤ w5.heap.size := hb5.size
            have HB5 := Lib.hid (HB.out.drew.trans (hb5.mono (show w.heap.size ≤ W.heap.size by omega)))
            have Q5 := Lib.hid ((hb5.block (w.heap.size + 1 + 1) hz).trans Q2.out)
            clear hb5))
        | ((go_at_call 37; refine (H2.out _).mono ?_; rintro e w6 ⟨rfl, hb6⟩
            have a0 : w6.cell? ⟨w.heap.size, 0, none⟩ = some (.bool true) := (hb6.cell (p := ⟨w.heap.size, 0, none⟩) (show w.heap.size < w5.heap.size by omega)).trans a0
            have a1 : w6.cell? ⟨w.heap.size, 1, none⟩ = some (.string P) := (hb6.cell (p := ⟨w.heap.size, 1, none⟩) (show w.heap.size < w5.heap.size by omega)).trans a1
            have a2 : w6.cell? ⟨w.heap.size + 1, 0, none⟩ = some (.bool false) := (hb6.cell (p := ⟨w.heap.size + 1, 0, none⟩) (show w.heap.size + 1 < w5.heap.size by omega)).trans a2
            have a3 : w6.cell? ⟨w.heap.size + 1, 1, none⟩ = some (.string Q) := (hb6.cell (p := ⟨w.heap.size + 1, 1, none⟩) (show w.heap.size + 1 < w5.heap.size by omega)).trans a3
            have HB6 := Lib.hid (HB5.out.trans (hb6.mono (show w.heap.size ≤ w5.heap.size by omega)))
            have q6 := (hb6.block (w.heap.size + 1 + 1) (show w.heap.size + 1 + 1 < w5.heap.size by omega)).trans Q5.out
            have z0 : w6.cell? ⟨w.heap.size + 1 + 1, 0, none⟩ = some (.bool false) := Lib.cell_of_heap q6 0
            have z1 : w6.cell? ⟨w.heap.size + 1 + 1, 1, none⟩ = some (.string ⟨#[]⟩) := Lib.cell_of_heap q6 1
            have f0 : w6.frozen? ⟨w.heap.size + 1 + 1, 0, none⟩ = false := Lib.frozen_of_heap q6 0
            have f1 : w6.frozen? ⟨w.heap.size + 1 + 1, 1, none⟩ = false := Lib.frozen_of_heap q6 1
            clear hb6 q6)))
    go_wp2
    exact bodyPost_ret (v := .agg #[.bool zb, .string zs]) (by simp [results, Tryd.results26, go_sem, z0, z1]) rfl ⟨rfl, (HB6.out.setCell (p := ⟨w.heap.size + 1 + 1, 0, none⟩) (show w.heap.size ≤ w.heap.size + 1 + 1 by omega) _).setCell (p := ⟨w.heap.size + 1 + 1, 1, none⟩) (show w.heap.size ≤ w.heap.size + 1 + 1 by omega) _⟩

theorem add_any (b c : Bool) (X Y : Nat) (hX : (decN X).length ≤ 5000) (hY : (decN Y).length ≤ 5000) (w : World) :
    Calls Tryd.prog 26 #[smV b X, smV c Y] w fun e w' => e = .returned (intV (sg b X + sg c Y)) ∧ Below w.heap.size w w' := by
  by_cases h : c = b
  · subst h; exact add_same c X Y hX hY w
  · have hc : c = !b := by cases b <;> cases c <;> simp_all
    by_cases hlt : X < Y
    · exact add_lt b c hc X Y hX hY hlt w
    · exact add_ge b c hc X Y hX hY hlt w
end Go.Proofs.YtibhfcnjmilepaaDoor
