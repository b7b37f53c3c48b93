import Derived.Test.YtibhfcnjmilepaaDoorNumAJ
namespace Go.Proofs.YtibhfcnjmilepaaDoor
open Go.RowKit

/-- the program's number -/
def IntIs (w : World) (v : Value) (z : Int) : Prop := ∃ sv, v = .agg #[.bool (decide (z < 0)), sv] ∧ U32s w sv (digB z.natAbs)
def IntPost (z : Int) (w : World) (e : Ending) (w' : World) : Prop := (∃ v, e = .returned v ∧ IntIs w' v z) ∧ Below w.heap.size w w'
theorem IntIs.below {w w' : World} {v : Value} {z : Int} (h : IntIs w v z) (hb : Below w.heap.size w w') : IntIs w' v z := by
  obtain ⟨sv, rfl, hu⟩ := h
  exact ⟨sv, rfl, hu.below hb⟩
/-- a result's own cells are none of a row's -/
theorem U32s.set2 {w : World} {v : Value} {l : List Nat} {k : Nat} {m : Bool} {p : Option Addr} {n c : Nat} {T : TypeId} {fr : Nat × Nat} (h : U32s w v l) (hq : w.heap[k]? = some (.cells #[.bool m, .slice p n c] T fr)) (x y : Value) :
    U32s ((w.setCell ⟨k, 0, none⟩ x).setCell ⟨k, 1, none⟩ y) v l := by
  rcases h with ⟨rfl, a, c, rfl⟩ | ⟨b, off, cap, rfl, hb, hc⟩
  · exact .inl ⟨rfl, a, c, rfl⟩
  · refine .inr ⟨b, off, cap, rfl, by simpa [World.setCell] using hb, fun j hj => ?_⟩
    have hne : b ≠ k := by
      rintro rfl
      have h1 := hc j hj
      rw [Lib.cell_of_heap hq] at h1
      rcases hi : off + j with _ | _ | i
      · rw [hi] at h1; simp [u32V] at h1
      · rw [hi] at h1; simp [u32V] at h1
      · rw [hi] at h1; simp [u32V] at h1
    exact (set2_keep hne).trans (hc j hj)
theorem sg_neg0 {m : Bool} {n : Nat} (h : 0 < n) : decide (sg m n < 0) = m := by
  unfold sg
  cases m
  · simp
  · simp; omega
theorem sg_zero (m : Bool) : sg m 0 = 0 := by cases m <;> rfl

set_option maxRecDepth 100000 in
set_option maxHeartbeats 4000000 in
theorem signed_any (m : Bool) (n : Nat) (v : Value) (w : World) (hu : U32s w v (digB n)) :
    Calls Tryd.prog 35 #[.bool m, v] w (IntPost (sg m n) w) := by
  obtain ⟨a, c, rfl⟩ := hu.val
  obtain ⟨l, hl⟩ : ∃ l, l = (digB n).length := ⟨_, rfl⟩
  rw [← hl] at hu ⊢
  by_cases h0 : n = 0
  · have hl0 : l = 0 := by rw [hl, h0, digB_zero]; rfl
    subst h0
    rw [sg_zero]
    subst hl0
    clear hl hu
    go_enter Tryd.func35, Tryd.ntmps35
    go_wp2
    exact bodyPost_ret (v := .agg #[.bool false, .slice none 0 0]) (by simp [results, Tryd.results35, go_sem]) rfl ⟨⟨_, rfl, .slice none 0 0, rfl, .inl ⟨digB_zero, _, _, rfl⟩⟩, by first | exact (Below.refl _ _).alloc (Nat.le_refl _) _ | exact (((Below.refl _ _).alloc (Nat.le_refl _) _).setCell (p := ⟨_, 0, none⟩) (Nat.le_refl _) _).setCell (p := ⟨_, 1, none⟩) (Nat.le_refl _) _⟩
  · have hl0 : 0 < l := by rw [hl, digB_pos (by omega)]; simp
    have g1 : ((l : Int) == 0) = false := by rw [beq_eq_false_iff_ne]; omega
    have hs := sg_neg0 (m := m) (show 0 < n by omega)
    have HU := Lib.hid hu
    have HS := Lib.hid hs
    have HL := Lib.hid hl
    clear hl hl0 hu hs h0
    go_enter Tryd.func35, Tryd.ntmps35
    go_wp2
    exact bodyPost_ret (v := .agg #[.bool m, .slice a l c]) (by simp [results, Tryd.results35, go_sem]) rfl ⟨⟨_, rfl, .slice a l c, by rw [HS.out], by rw [sg_abs]; exact HU.out.below (by first | exact (Below.refl _ _).alloc (Nat.le_refl _) _ | exact (((Below.refl _ _).alloc (Nat.le_refl _) _).setCell (p := ⟨_, 0, none⟩) (Nat.le_refl _) _).setCell (p := ⟨_, 1, none⟩) (Nat.le_refl _) _)⟩, by first | exact (Below.refl _ _).alloc (Nat.le_refl _) _ | exact (((Below.refl _ _).alloc (Nat.le_refl _) _).setCell (p := ⟨_, 0, none⟩) (Nat.le_refl _) _).setCell (p := ⟨_, 1, none⟩) (Nat.le_refl _) _⟩
end Go.Proofs.YtibhfcnjmilepaaDoor
