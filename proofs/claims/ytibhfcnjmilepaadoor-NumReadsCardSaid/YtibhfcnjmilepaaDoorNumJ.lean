import Derived.Test.YtibhfcnjmilepaaDoorNumI
namespace Go.Proofs.YtibhfcnjmilepaaDoor
open Go.RowKit

theorem sg_quo (b c : Bool) (X Y : Nat) : sg (b != c) (X / Y) = (sg b X).tdiv (sg c Y) := by
  have e : ((X / Y : Nat) : Int) = (X : Int).tdiv Y := rfl
  unfold sg
  rw [e]
  cases b <;> cases c <;> simp only [bne_self_eq_false, Bool.false_bne, Bool.bne_false, if_true, if_false, Bool.false_eq_true, Int.neg_tdiv, Int.tdiv_neg, Int.neg_neg]
theorem sg_rem (b c : Bool) (X Y : Nat) : sg b (X % Y) = (sg b X).tmod (sg c Y) := by
  have e : ((X % Y : Nat) : Int) = (X : Int).tmod Y := rfl
  unfold sg
  rw [e]
  cases b <;> cases c <;> simp only [if_true, if_false, Bool.false_eq_true, Int.neg_tmod, Int.tmod_neg]

set_option maxRecDepth 100000 in
set_option maxHeartbeats 4000000 in
theorem quo_zero (b c : Bool) (X : Nat) (_hX : (decN X).length ≤ 4000) (w : World) :
    Calls Tryd.prog 23 #[smV b X, smV c 0] w fun e w' => e = .returned (.tuple #[intV 0, .int .i64 8]) ∧ Below w.heap.size w w' := by
  have M := fun w => made_dec false 0 (by rw [decN_small (by omega)]; simp) w
  rw [decS_0, show sg false 0 = 0 from rfl] at M
  obtain ⟨z, hz⟩ : ∃ z : Int, z = 0 := ⟨_, rfl⟩
  rw [← hz] at M ⊢
  obtain ⟨P, hP⟩ : ∃ P, P = decS X := ⟨_, rfl⟩
  obtain ⟨Q, hQ⟩ : ∃ Q, Q = decS 0 := ⟨_, rfl⟩
  have hq := decS_zero 0
  rw [← hQ] at hq
  rw [decide_eq_true rfl] at hq
  obtain ⟨zb, hzb⟩ : ∃ zb, zb = decide (z < 0) := ⟨_, rfl⟩
  obtain ⟨zs, hzs⟩ : ∃ zs, zs = decS z.natAbs := ⟨_, rfl⟩
  unfold intV smV at M ⊢
  rw [← hzb, ← hzs] at M
  rw [← hP, ← hQ, ← hzb, ← hzs]
  have HM := Lib.hid M
  clear M hz hP hQ hzb hzs
  go_enter Tryd.func23, Tryd.ntmps23
  obtain ⟨W, hW⟩ : ∃ W, W = ((w.alloc (.cells #[.bool b, .string P] 30)).alloc (.cells #[.bool c, .string Q] 30)).alloc (.cells #[.bool false, .string ⟨#[]⟩] 30) := ⟨_, rfl⟩
  have q0 : W.heap[w.heap.size]? = some (.cells #[.bool b, .string P] 30 (0, 0)) := by rw [hW]; exact alloc_past (alloc_past (alloc_at (by simp)) (by simp)) (by simp; omega)
  have q1 : W.heap[w.heap.size + 1]? = some (.cells #[.bool c, .string Q] 30 (0, 0)) := by rw [hW]; exact alloc_past (alloc_at (by simp)) (by simp)
  have q2 : W.heap[w.heap.size + 1 + 1]? = some (.cells #[.bool false, .string ⟨#[]⟩] 30 (0, 0)) := by rw [hW]; exact alloc_at (by simp)
  have hz : w.heap.size + 1 + 1 < W.heap.size := by rw [hW]; simp
  have hBel : Below w.heap.size w W := by rw [hW]; exact (((Below.refl _ _).alloc (Nat.le_refl _) _).alloc (by simp) _).alloc (by simp; omega) _
  have HB := Lib.hid hBel
  have Q0 := Lib.hid q0
  have Q1 := Lib.hid q1
  have Q2 := Lib.hid q2
  have HW := Lib.hid hW
  clear hW q0 q1 q2 hBel
  go_wp2_with fail
  rw [← HW.out]
  obtain ⟨w5, hw5⟩ : ∃ w5, w5 = W := ⟨_, rfl⟩
  have HB5 : Hid (Below w.heap.size w w5) := by rw [hw5]; exact HB
  have Q5 : Hid (w5.heap[w.heap.size + 1 + 1]? = some (.cells #[.bool false, .string ⟨#[]⟩] 30 (0, 0))) := by rw [hw5]; exact Q2
  have hbz : W.heap.size ≤ w5.heap.size := by rw [hw5]; exact Nat.le_refl _
  rw [← hw5]
  clear hw5
  refine (HM.out _).mono ?_
  rintro e w6 ⟨rfl, hb6⟩
  have HB6 := Lib.hid (HB5.out.trans (hb6.mono (show w.heap.size ≤ w5.heap.size by omega)))
  have q6 := (hb6.block (w.heap.size + 1 + 1) (show w.heap.size + 1 + 1 < w5.heap.size by omega)).trans Q5.out
  have z0 : w6.cell? ⟨w.heap.size + 1 + 1, 0, none⟩ = some (.bool false) := Lib.cell_of_heap q6 0
  have z1 : w6.cell? ⟨w.heap.size + 1 + 1, 1, none⟩ = some (.string ⟨#[]⟩) := Lib.cell_of_heap q6 1
  have f0 : w6.frozen? ⟨w.heap.size + 1 + 1, 0, none⟩ = false := Lib.frozen_of_heap q6 0
  have f1 : w6.frozen? ⟨w.heap.size + 1 + 1, 1, none⟩ = false := Lib.frozen_of_heap q6 1
  clear hb6 q6
  go_wp2
  exact bodyPost_ret (v := .tuple #[.agg #[.bool zb, .string zs], .int .i64 8]) (by simp [results, Tryd.results23, go_sem, z0, z1]) rfl ⟨rfl, (HB6.out.setCell (p := ⟨w.heap.size + 1 + 1, 0, none⟩) (show w.heap.size ≤ w.heap.size + 1 + 1 by omega) _).setCell (p := ⟨w.heap.size + 1 + 1, 1, none⟩) (show w.heap.size ≤ w.heap.size + 1 + 1 by omega) _⟩

set_option maxRecDepth 100000 in
set_option maxHeartbeats 4000000 in
theorem quo_some (b c : Bool) (X Y : Nat) (hX : (decN X).length ≤ 4000) (hY : (decN Y).length ≤ 4000) (hB : 0 < Y) (w : World) :
    Calls Tryd.prog 23 #[smV b X, smV c Y] w fun e w' => e = .returned (.tuple #[intV ((sg b X).tdiv (sg c Y)), .int .i64 0]) ∧ Below w.heap.size w w' := by
  have DV := fun w => divide_any X Y hB hX hY w
  have M := fun w => made_dec (b != c) (X / Y) (by have := dec_len_mono hX (show X / Y ≤ X from Nat.div_le_self _ _); omega) w
  rw [show sg (b != c) (X / Y) = (sg b X).tdiv (sg c Y) from sg_quo b c X Y] at M
  obtain ⟨z, hz⟩ : ∃ z, z = (sg b X).tdiv (sg c Y) := ⟨_, rfl⟩
  rw [← hz] at M ⊢
  obtain ⟨P, hP⟩ : ∃ P, P = decS X := ⟨_, rfl⟩
  obtain ⟨Q, hQ⟩ : ∃ Q, Q = decS Y := ⟨_, rfl⟩
  have hq := decS_zero Y
  rw [← hQ] at hq
  rw [decide_eq_false (show ¬ Y = 0 by omega)] at hq
  obtain ⟨zb, hzb⟩ : ∃ zb, zb = decide (z < 0) := ⟨_, rfl⟩
  obtain ⟨zs, hzs⟩ : ∃ zs, zs = decS z.natAbs := ⟨_, rfl⟩
  unfold intV smV at M ⊢
  rw [← hzb, ← hzs] at M
  rw [← hP, ← hQ, ← hzb, ← hzs]
  obtain ⟨S1, hS1⟩ : ∃ S1, S1 = decS (X / Y) := ⟨_, rfl⟩
  obtain ⟨S2, hS2⟩ : ∃ S2, S2 = decS (X % Y) := ⟨_, rfl⟩
  rw [← hP, ← hQ, ← hS1, ← hS2] at DV
  rw [← hS1] at M
  have HV := Lib.hid DV
  clear DV hS1 hS2
  have HM := Lib.hid M
  clear M hz hP hQ hzb hzs
  go_enter Tryd.func23, Tryd.ntmps23
  obtain ⟨W, hW⟩ : ∃ W, W = ((w.alloc (.cells #[.bool b, .string P] 30)).alloc (.cells #[.bool c, .string Q] 30)).alloc (.cells #[.bool false, .string ⟨#[]⟩] 30) := ⟨_, rfl⟩
  have q0 : W.heap[w.heap.size]? = some (.cells #[.bool b, .string P] 30 (0, 0)) := by rw [hW]; exact alloc_past (alloc_past (alloc_at (by simp)) (by simp)) (by simp; omega)
  have q1 : W.heap[w.heap.size + 1]? = some (.cells #[.bool c, .string Q] 30 (0, 0)) := by rw [hW]; exact alloc_past (alloc_at (by simp)) (by simp)
  have q2 : W.heap[w.heap.size + 1 + 1]? = some (.cells #[.bool false, .string ⟨#[]⟩] 30 (0, 0)) := by rw [hW]; exact alloc_at (by simp)
  have hz : w.heap.size + 1 + 1 < W.heap.size := by rw [hW]; simp
  have hBel : Below w.heap.size w W := by rw [hW]; exact (((Below.refl _ _).alloc (Nat.le_refl _) _).alloc (by simp) _).alloc (by simp; omega) _
  have HB := Lib.hid hBel
  have Q0 := Lib.hid q0
  have Q1 := Lib.hid q1
  have Q2 := Lib.hid q2
  have HW := Lib.hid hW
  clear hW q0 q1 q2 hBel
  go_wp2_with fail
  rw [← HW.out]
  refine (HV.out _).mono ?_
  rintro e w5 ⟨rfl, hb5⟩
  have hbz := hb5.size
  have e0 : w5.cell? ⟨w.heap.size, 0, none⟩ = some (.bool b) := (hb5.cell (p := ⟨w.heap.size, 0, none⟩) (show w.heap.size < W.heap.size by omega)).trans (Lib.cell_of_heap Q0.out 0)
  have e1 : w5.cell? ⟨w.heap.size + 1, 0, none⟩ = some (.bool c) := (hb5.cell (p := ⟨w.heap.size + 1, 0, none⟩) (show w.heap.size + 1 < W.heap.size by omega)).trans (Lib.cell_of_heap Q1.out 0)
  have HB5 := Lib.hid (HB.out.trans (hb5.mono (show w.heap.size ≤ W.heap.size by omega)))
  have Q5 := Lib.hid ((hb5.block (w.heap.size + 1 + 1) hz).trans Q2.out)
  clear hb5
  go_wp2_with fail
  refine (HM.out _).mono ?_
  rintro e w6 ⟨rfl, hb6⟩
  have HB6 := Lib.hid (HB5.out.trans (hb6.mono (show w.heap.size ≤ w5.heap.size by omega)))
  have q6 := (hb6.block (w.heap.size + 1 + 1) (show w.heap.size + 1 + 1 < w5.heap.size by omega)).trans Q5.out
  have z0 : w6.cell? ⟨w.heap.size + 1 + 1, 0, none⟩ = some (.bool false) := Lib.cell_of_heap q6 0
  have z1 : w6.cell? ⟨w.heap.size + 1 + 1, 1, none⟩ = some (.string ⟨#[]⟩) := Lib.cell_of_heap q6 1
  have f0 : w6.frozen? ⟨w.heap.size + 1 + 1, 0, none⟩ = false := Lib.frozen_of_heap q6 0
  have f1 : w6.frozen? ⟨w.heap.size + 1 + 1, 1, none⟩ = false := Lib.frozen_of_heap q6 1
  clear hb6 q6
  go_wp2
  exact bodyPost_ret (v := .tuple #[.agg #[.bool zb, .string zs], .int .i64 0]) (by simp [results, Tryd.results23, go_sem, z0, z1]) rfl ⟨rfl, (HB6.out.setCell (p := ⟨w.heap.size + 1 + 1, 0, none⟩) (show w.heap.size ≤ w.heap.size + 1 + 1 by omega) _).setCell (p := ⟨w.heap.size + 1 + 1, 1, none⟩) (show w.heap.size ≤ w.heap.size + 1 + 1 by omega) _⟩

set_option maxRecDepth 100000 in
set_option maxHeartbeats 4000000 in
theorem rem_zero (b c : Bool) (X : Nat) (_hX : (decN X).length ≤ 4000) (w : World) :
    Calls Tryd.prog 24 #[smV b X, smV c 0] w fun e w' => e = .returned (.tuple #[intV 0, .int .i64 8]) ∧ Below w.heap.size w w' := by
  have M := fun w => made_dec false 0 (by rw [decN_small (by omega)]; simp) w
  rw [decS_0, show sg false 0 = 0 from rfl] at M
  obtain ⟨z, hz⟩ : ∃ z : Int, z = 0 := ⟨_, rfl⟩
  rw [← hz] at M ⊢
  obtain ⟨P, hP⟩ : ∃ P, P = decS X := ⟨_, rfl⟩
  obtain ⟨Q, hQ⟩ : ∃ Q, Q = decS 0 := ⟨_, rfl⟩
  have hq := decS_zero 0
  rw [← hQ] at hq
  rw [decide_eq_true rfl] at hq
  obtain ⟨zb, hzb⟩ : ∃ zb, zb = decide (z < 0) := ⟨_, rfl⟩
  obtain ⟨zs, hzs⟩ : ∃ zs, zs = decS z.natAbs := ⟨_, rfl⟩
  unfold intV smV at M ⊢
  rw [← hzb, ← hzs] at M
  rw [← hP, ← hQ, ← hzb, ← hzs]
  have HM := Lib.hid M
  clear M hz hP hQ hzb hzs
  go_enter Tryd.func24, Tryd.ntmps24
  obtain ⟨W, hW⟩ : ∃ W, W = ((w.alloc (.cells #[.bool b, .string P] 30)).alloc (.cells #[.bool c, .string Q] 30)).alloc (.cells #[.bool false, .string ⟨#[]⟩] 30) := ⟨_, rfl⟩
  have q0 : W.heap[w.heap.size]? = some (.cells #[.bool b, .string P] 30 (0, 0)) := by rw [hW]; exact alloc_past (alloc_past (alloc_at (by simp)) (by simp)) (by simp; omega)
  have q1 : W.heap[w.heap.size + 1]? = some (.cells #[.bool c, .string Q] 30 (0, 0)) := by rw [hW]; exact alloc_past (alloc_at (by simp)) (by simp)
  have q2 : W.heap[w.heap.size + 1 + 1]? = some (.cells #[.bool false, .string ⟨#[]⟩] 30 (0, 0)) := by rw [hW]; exact alloc_at (by simp)
  have hz : w.heap.size + 1 + 1 < W.heap.size := by rw [hW]; simp
  have hBel : Below w.heap.size w W := by rw [hW]; exact (((Below.refl _ _).alloc (Nat.le_refl _) _).alloc (by simp) _).alloc (by simp; omega) _
  have HB := Lib.hid hBel
  have Q0 := Lib.hid q0
  have Q1 := Lib.hid q1
  have Q2 := Lib.hid q2
  have HW := Lib.hid hW
  clear hW q0 q1 q2 hBel
  go_wp2_with fail
  rw [← HW.out]
  obtain ⟨w5, hw5⟩ : ∃ w5, w5 = W := ⟨_, rfl⟩
  have HB5 : Hid (Below w.heap.size w w5) := by rw [hw5]; exact HB
  have Q5 : Hid (w5.heap[w.heap.size + 1 + 1]? = some (.cells #[.bool false, .string ⟨#[]⟩] 30 (0, 0))) := by rw [hw5]; exact Q2
  have hbz : W.heap.size ≤ w5.heap.size := by rw [hw5]; exact Nat.le_refl _
  rw [← hw5]
  clear hw5
  refine (HM.out _).mono ?_
  rintro e w6 ⟨rfl, hb6⟩
  have HB6 := Lib.hid (HB5.out.trans (hb6.mono (show w.heap.size ≤ w5.heap.size by omega)))
  have q6 := (hb6.block (w.heap.size + 1 + 1) (show w.heap.size + 1 + 1 < w5.heap.size by omega)).trans Q5.out
  have z0 : w6.cell? ⟨w.heap.size + 1 + 1, 0, none⟩ = some (.bool false) := Lib.cell_of_heap q6 0
  have z1 : w6.cell? ⟨w.heap.size + 1 + 1, 1, none⟩ = some (.string ⟨#[]⟩) := Lib.cell_of_heap q6 1
  have f0 : w6.frozen? ⟨w.heap.size + 1 + 1, 0, none⟩ = false := Lib.frozen_of_heap q6 0
  have f1 : w6.frozen? ⟨w.heap.size + 1 + 1, 1, none⟩ = false := Lib.frozen_of_heap q6 1
  clear hb6 q6
  go_wp2
  exact bodyPost_ret (v := .tuple #[.agg #[.bool zb, .string zs], .int .i64 8]) (by simp [results, Tryd.results24, go_sem, z0, z1]) rfl ⟨rfl, (HB6.out.setCell (p := ⟨w.heap.size + 1 + 1, 0, none⟩) (show w.heap.size ≤ w.heap.size + 1 + 1 by omega) _).setCell (p := ⟨w.heap.size + 1 + 1, 1, none⟩) (show w.heap.size ≤ w.heap.size + 1 + 1 by omega) _⟩

set_option maxRecDepth 100000 in
set_option maxHeartbeats 4000000 in
theorem rem_some (b c : Bool) (X Y : Nat) (hX : (decN X).length ≤ 4000) (hY : (decN Y).length ≤ 4000) (hB : 0 < Y) (w : World) :
    Calls Tryd.prog 24 #[smV b X, smV c Y] w fun e w' => e = .returned (.tuple #[intV ((sg b X).tmod (sg c Y)), .int .i64 0]) ∧ Below w.heap.size w w' := by
  have DV := fun w => divide_any X Y hB hX hY w
  have M := fun w => made_dec b (X % Y) (by have := dec_len_mono hX (show X % Y ≤ X from Nat.mod_le _ _); omega) w
  rw [show sg b (X % Y) = (sg b X).tmod (sg c Y) from sg_rem b c X Y] at M
  obtain ⟨z, hz⟩ : ∃ z, z = (sg b X).tmod (sg c Y) := ⟨_, rfl⟩
  rw [← hz] at M ⊢
  obtain ⟨P, hP⟩ : ∃ P, P = decS X := ⟨_, rfl⟩
  obtain ⟨Q, hQ⟩ : ∃ Q, Q = decS Y := ⟨_, rfl⟩
  have hq := decS_zero Y
  rw [← hQ] at hq
  rw [decide_eq_false (show ¬ Y = 0 by omega)] at hq
  obtain ⟨zb, hzb⟩ : ∃ zb, zb = decide (z < 0) := ⟨_, rfl⟩
  obtain ⟨zs, hzs⟩ : ∃ zs, zs = decS z.natAbs := ⟨_, rfl⟩
  unfold intV smV at M ⊢
  rw [← hzb, ← hzs] at M
  rw [← hP, ← hQ, ← hzb, ← hzs]
  obtain ⟨S1, hS1⟩ : ∃ S1, S1 = decS (X / Y) := ⟨_, rfl⟩
  obtain ⟨S2, hS2⟩ : ∃ S2, S2 = decS (X % Y) := ⟨_, rfl⟩
  rw [← hP, ← hQ, ← hS1, ← hS2] at DV
  rw [← hS2] at M
  have HV := Lib.hid DV
  clear DV hS1 hS2
  have HM := Lib.hid M
  clear M hz hP hQ hzb hzs
  go_enter Tryd.func24, Tryd.ntmps24
  obtain ⟨W, hW⟩ : ∃ W, W = ((w.alloc (.cells #[.bool b, .string P] 30)).alloc (.cells #[.bool c, .string Q] 30)).alloc (.cells #[.bool false, .string ⟨#[]⟩] 30) := ⟨_, rfl⟩
  have q0 : W.heap[w.heap.size]? = some (.cells #[.bool b, .string P] 30 (0, 0)) := by rw [hW]; exact alloc_past (alloc_past (alloc_at (by simp)) (by simp)) (by simp; omega)
  have q1 : W.heap[w.heap.size + 1]? = some (.cells #[.bool c, .string Q] 30 (0, 0)) := by rw [hW]; exact alloc_past (alloc_at (by simp)) (by simp)
  have q2 : W.heap[w.heap.size + 1 + 1]? = some (.cells #[.bool false, .string ⟨#[]⟩] 30 (0, 0)) := by rw [hW]; exact alloc_at (by simp)
  have hz : w.heap.size + 1 + 1 < W.heap.size := by rw [hW]; simp
  have hBel : Below w.heap.size w W := by rw [hW]; exact (((Below.refl _ _).alloc (Nat.le_refl _) _).alloc (by simp) _).alloc (by simp; omega) _
  have HB := Lib.hid hBel
  have Q0 := Lib.hid q0
  have Q1 := Lib.hid q1
  have Q2 := Lib.hid q2
  have HW := Lib.hid hW
  clear hW q0 q1 q2 hBel
  go_wp2_with fail
  rw [← HW.out]
  refine (HV.out _).mono ?_
  rintro e w5 ⟨rfl, hb5⟩
  have hbz := hb5.size
  have e0 : w5.cell? ⟨w.heap.size, 0, none⟩ = some (.bool b) := (hb5.cell (p := ⟨w.heap.size, 0, none⟩) (show w.heap.size < W.heap.size by omega)).trans (Lib.cell_of_heap Q0.out 0)
  have e1 : w5.cell? ⟨w.heap.size + 1, 0, none⟩ = some (.bool c) := (hb5.cell (p := ⟨w.heap.size + 1, 0, none⟩) (show w.heap.size + 1 < W.heap.size by omega)).trans (Lib.cell_of_heap Q1.out 0)
  have HB5 := Lib.hid (HB.out.trans (hb5.mono (show w.heap.size ≤ W.heap.size by omega)))
  have Q5 := Lib.hid ((hb5.block (w.heap.size + 1 + 1) hz).trans Q2.out)
  clear hb5
  go_wp2_with fail
  refine (HM.out _).mono ?_
  rintro e w6 ⟨rfl, hb6⟩
  have HB6 := Lib.hid (HB5.out.trans (hb6.mono (show w.heap.size ≤ w5.heap.size by omega)))
  have q6 := (hb6.block (w.heap.size + 1 + 1) (show w.heap.size + 1 + 1 < w5.heap.size by omega)).trans Q5.out
  have z0 : w6.cell? ⟨w.heap.size + 1 + 1, 0, none⟩ = some (.bool false) := Lib.cell_of_heap q6 0
  have z1 : w6.cell? ⟨w.heap.size + 1 + 1, 1, none⟩ = some (.string ⟨#[]⟩) := Lib.cell_of_heap q6 1
  have f0 : w6.frozen? ⟨w.heap.size + 1 + 1, 0, none⟩ = false := Lib.frozen_of_heap q6 0
  have f1 : w6.frozen? ⟨w.heap.size + 1 + 1, 1, none⟩ = false := Lib.frozen_of_heap q6 1
  clear hb6 q6
  go_wp2
  exact bodyPost_ret (v := .tuple #[.agg #[.bool zb, .string zs], .int .i64 0]) (by simp [results, Tryd.results24, go_sem, z0, z1]) rfl ⟨rfl, (HB6.out.setCell (p := ⟨w.heap.size + 1 + 1, 0, none⟩) (show w.heap.size ≤ w.heap.size + 1 + 1 by omega) _).setCell (p := ⟨w.heap.size + 1 + 1, 1, none⟩) (show w.heap.size ≤ w.heap.size + 1 + 1 by omega) _⟩
end Go.Proofs.YtibhfcnjmilepaaDoor
