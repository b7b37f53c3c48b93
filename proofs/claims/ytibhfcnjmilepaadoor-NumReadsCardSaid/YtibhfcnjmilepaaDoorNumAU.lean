import Derived.Test.YtibhfcnjmilepaaDoorNumAS
import Derived.Deep.RegionHeld3
namespace Go.Proofs.YtibhfcnjmilepaaDoor
open Go.RowKit

/-- a variable's own block -/
def VarAt (w : World) (g : Nat) (b : Bool) (s : Option Addr) (l c : Nat) : Prop := w.heap[g]? = some (.cells #[.bool b, .slice s l c] 25 (0, 0))
theorem VarAt.c0 {w : World} {g : Nat} {b : Bool} {s : Option Addr} {l c : Nat} (h : VarAt w g b s l c) : w.cell? ⟨g, 0, none⟩ = some (.bool b) := Lib.cell_of_heap h 0
theorem VarAt.c1 {w : World} {g : Nat} {b : Bool} {s : Option Addr} {l c : Nat} (h : VarAt w g b s l c) : w.cell? ⟨g, 1, none⟩ = some (.slice s l c) := Lib.cell_of_heap h 1
theorem VarAt.f0 {w : World} {g : Nat} {b : Bool} {s : Option Addr} {l c : Nat} (h : VarAt w g b s l c) (j : Nat) : w.frozen? ⟨g, j, none⟩ = false := Lib.frozen_of_heap h j
theorem VarAt.lt {w : World} {g : Nat} {b : Bool} {s : Option Addr} {l c : Nat} (h : VarAt w g b s l c) : g < w.heap.size := (Array.getElem?_eq_some_iff.1 h).1
theorem VarAt.below {w w' : World} {B g : Nat} {b : Bool} {s : Option Addr} {l c : Nat} (h : VarAt w g b s l c) (hb : Below B w w') (hg : g < B) : VarAt w' g b s l c := (hb.block g hg).trans h
theorem VarAt.set {w : World} {g : Nat} {b b' : Bool} {s s' : Option Addr} {l c l' c' : Nat} (h : VarAt w g b s l c) : VarAt ((w.setCell ⟨g, 0, none⟩ (.bool b')).setCell ⟨g, 1, none⟩ (.slice s' l' c')) g b' s' l' c' := by
  unfold VarAt at *
  simp [World.setCell, Array.getElem?_modify, h]
theorem VarAt.other {w : World} {g k : Nat} {b : Bool} {s : Option Addr} {l c : Nat} {x y : Value} (h : VarAt w g b s l c) (hk : g ≠ k) : VarAt ((w.setCell ⟨k, 0, none⟩ x).setCell ⟨k, 1, none⟩ y) g b s l c :=
  (Below.heap_setCell _ _ _ _ hk).trans ((Below.heap_setCell _ _ _ _ hk).trans h)
theorem VarAt.made (w : World) (b : Bool) (s : Option Addr) (l c : Nat) : VarAt (w.alloc (.cells #[.bool b, .slice s l c] 25)) w.heap.size b s l c := heap_alloc_new _ _
theorem NumIs.set {K : Nat} {w : World} {v : Value} {z : Int} {g : Nat} {b b' : Bool} {s s' : Option Addr} {l c l' c' : Nat} (h : NumIs K w v z) (hv : VarAt w g b s l c) : NumIs K ((w.setCell ⟨g, 0, none⟩ (.bool b')).setCell ⟨g, 1, none⟩ (.slice s' l' c')) v z := by
  obtain ⟨⟨sv, rfl, hu⟩, hK⟩ := h
  exact ⟨⟨sv, rfl, hu.set2 hv _ _⟩, hK⟩
theorem NumIs.alloc {K : Nat} {w : World} {v : Value} {z : Int} (h : NumIs K w v z) (o : Obj) : NumIs K (w.alloc o) v z := h.below ((Below.refl _ _).alloc (Nat.le_refl _) _)
theorem NumIs.mono {K L : Nat} {w : World} {v : Value} {z : Int} (h : NumIs K w v z) (hKL : K ≤ L) : NumIs L w v z := ⟨h.1, Nat.le_trans h.2 hKL⟩
/-- two numbers of two texts -/
def TwPost (o p : Option Int) (w : World) (e : Ending) (w' : World) : Prop :=
  (∃ b1 s1 l1 c1 b2 s2 l2 c2, e = .returned (.tuple #[.agg #[.bool b1, .slice s1 l1 c1], .agg #[.bool b2, .slice s2 l2 c2], .bool (o.isSome && p.isSome)]) ∧ NumIs 15 w' (.agg #[.bool b1, .slice s1 l1 c1]) (o.getD 0) ∧ NumIs 15 w' (.agg #[.bool b2, .slice s2 l2 c2]) (p.getD 0)) ∧ Below w.heap.size w w'
/-- no numbers at all -/
def TwNone (w : World) (e : Ending) (w' : World) : Prop :=
  (∃ b1 s1 l1 c1 b2 s2 l2 c2, e = .returned (.tuple #[.agg #[.bool b1, .slice s1 l1 c1], .agg #[.bool b2, .slice s2 l2 c2], .bool false])) ∧ Below w.heap.size w w'
theorem VarAt.made1 (w : World) (b : Bool) (s : Option Addr) (l c : Nat) (o : Obj) : VarAt ((w.alloc (.cells #[.bool b, .slice s l c] 25)).alloc o) w.heap.size b s l c :=
  (VarAt.made w b s l c).below (B := w.heap.size + 1) ((Below.refl _ _).alloc (by simp) _) (by omega)
theorem VarAt.made2 (w : World) (o : Obj) (b : Bool) (s : Option Addr) (l c : Nat) : VarAt ((w.alloc o).alloc (.cells #[.bool b, .slice s l c] 25)) (w.heap.size + 1) b s l c := by
  have := VarAt.made (w.alloc o) b s l c
  simpa using this
theorem VarAt.made3 (w : World) (o o' : Obj) (b : Bool) (s : Option Addr) (l c : Nat) : VarAt (((w.alloc o).alloc o').alloc (.cells #[.bool b, .slice s l c] 25)) (w.heap.size + 2) b s l c := by
  have := VarAt.made ((w.alloc o).alloc o') b s l c
  simpa using this

set_option maxRecDepth 100000 in
set_option maxHeartbeats 8000000 in
theorem ptwo_long (s t : ByteArray) (h : 130 < s.size ∨ 130 < t.size) (w : World) :
    Calls Tryd.prog 20 #[.string s, .string t] w (TwNone w) := by
  obtain ⟨W, hW⟩ : ∃ W, W = (w.alloc (.cells #[.bool false, .slice none 0 0] 25)).alloc (.cells #[.bool false, .slice none 0 0] 25) := ⟨_, rfl⟩
  have v1 := VarAt.made1 w false none 0 0 (.cells #[.bool false, .slice none 0 0] 25)
  have v2 := VarAt.made2 w (.cells #[.bool false, .slice none 0 0] 25) false none 0 0
  rw [← hW] at v1 v2
  have hBW : Below w.heap.size w W := by rw [hW]; exact ((Below.refl _ _).alloc (Nat.le_refl _) _).alloc (by simp) _
  have y0 := v1.c0
  have y1 := v1.c1
  have z0 := v2.c0
  have z1 := v2.c1
  have HB := Lib.hid hBW
  have HW := Lib.hid hW
  have HY0 := Lib.hid y0
  have HY1 := Lib.hid y1
  have HZ0 := Lib.hid z0
  have HZ1 := Lib.hid z1
  clear v1 v2 hBW hW y0 y1 z0 z1
  by_cases h1 : 130 < s.size
  · have d1 : decide ((s.size : Int) > 130) = true := decide_eq_true (by omega)
    clear h
    go_enter Tryd.func20, Tryd.ntmps20
    go_wp2
    rw [← HW.out]
    refine bodyPost_ret (v := .tuple #[.agg #[.bool false, .slice none 0 0], .agg #[.bool false, .slice none 0 0], .bool false]) ?_ ?_ ?_
    · simp [results, Tryd.results20, go_sem, HY0.out, HY1.out, HZ0.out, HZ1.out]
    · rfl
    · exact ⟨⟨_, _, _, _, _, _, _, _, rfl⟩, HB.out⟩
  · have d1 : decide ((s.size : Int) > 130) = false := decide_eq_false (by omega)
    have d2 : decide ((t.size : Int) > 130) = true := decide_eq_true (by omega)
    clear h
    go_enter Tryd.func20, Tryd.ntmps20
    go_wp2
    rw [← HW.out]
    refine bodyPost_ret (v := .tuple #[.agg #[.bool false, .slice none 0 0], .agg #[.bool false, .slice none 0 0], .bool false]) ?_ ?_ ?_
    · simp [results, Tryd.results20, go_sem, HY0.out, HY1.out, HZ0.out, HZ1.out]
    · rfl
    · exact ⟨⟨_, _, _, _, _, _, _, _, rfl⟩, HB.out⟩

set_option maxRecDepth 100000 in
set_option maxHeartbeats 8000000 in
theorem ptwo_some (s t : ByteArray) (o p : Option Int) (ho : readZ s.data.toList = o) (hp : readZ t.data.toList = p) (hs : s.size ≤ 130) (ht : t.size ≤ 130) (w : World) :
    Calls Tryd.prog 20 #[.string s, .string t] w (TwPost o p w) := by
  have R1 := fun w => nread s (by omega) w
  have R2 := fun w => nread t (by omega) w
  rw [ho] at R1
  rw [hp] at R2
  have d1 : decide ((s.size : Int) > 130) = false := decide_eq_false (by omega)
  have d2 : decide ((t.size : Int) > 130) = false := decide_eq_false (by omega)
  have k1 : s.size / 9 + 1 ≤ 15 := by omega
  have k2 : t.size / 9 + 1 ≤ 15 := by omega
  have HR1 := Lib.hid R1
  have HR2 := Lib.hid R2
  have HK1 := Lib.hid k1
  have HK2 := Lib.hid k2
  obtain ⟨W, hW⟩ : ∃ W, W = (w.alloc (.cells #[.bool false, .slice none 0 0] 25)).alloc (.cells #[.bool false, .slice none 0 0] 25) := ⟨_, rfl⟩
  have v1 := VarAt.made1 w false none 0 0 (.cells #[.bool false, .slice none 0 0] 25)
  have v2 := VarAt.made2 w (.cells #[.bool false, .slice none 0 0] 25) false none 0 0
  rw [← hW] at v1 v2
  have hBW : Below w.heap.size w W := by rw [hW]; exact ((Below.refl _ _).alloc (Nat.le_refl _) _).alloc (by simp) _
  obtain ⟨g, hg⟩ : ∃ g, g = w.heap.size := ⟨_, rfl⟩
  rw [← hg] at v1 v2 hBW
  have HB := Lib.hid hBW
  have HW := Lib.hid hW
  have HG := Lib.hid hg
  have V1 := Lib.hid v1
  have V2 := Lib.hid v2
  clear R1 R2 k1 k2 hs ht ho hp v1 v2 hBW hW hg
  go_enter Tryd.func20, Tryd.ntmps20
  go_wp2_with fail
  rw [← HG.out, ← HW.out]
  refine (HR1.out W).mono ?_
  rintro e w1 ⟨⟨b1, s1, l1, c1, rfl, hn1⟩, hb1⟩
  obtain ⟨W1, hW1⟩ : ∃ W1, W1 = w1.alloc (.cells #[.bool b1, .slice s1 l1 c1] 25) := ⟨_, rfl⟩
  obtain ⟨g1, hg1⟩ : ∃ g1, g1 = w1.heap.size := ⟨_, rfl⟩
  have hs1 : W.heap.size ≤ g1 := by rw [hg1]; exact hb1.size
  have HB1 := Lib.hid (show Below W.heap.size W W1 by rw [hW1]; exact hb1.alloc hb1.size _)
  have HVA := Lib.hid (show VarAt W1 g1 b1 s1 l1 c1 by rw [hW1, hg1]; exact VarAt.made _ _ _ _ _)
  have HN1 := Lib.hid (show NumIs 15 W1 _ _ by rw [hW1]; exact (hn1.mono HK1.out).alloc _)
  have HV1 := Lib.hid (V1.out.below HB1.out V1.out.lt)
  have HV2 := Lib.hid (V2.out.below HB1.out V2.out.lt)
  have HW1 := Lib.hid hW1
  have HG1 := Lib.hid hg1
  clear hn1 hb1 hW1 hg1
  go_wp2_with fail
  rw [← HG1.out, ← HW1.out]
  refine (HR2.out W1).mono ?_
  rintro e w2 ⟨⟨b2, s2, l2, c2, rfl, hn2⟩, hb2⟩
  obtain ⟨W2, hW2⟩ : ∃ W2, W2 = w2.alloc (.cells #[.bool b2, .slice s2 l2 c2] 25) := ⟨_, rfl⟩
  obtain ⟨g2, hg2⟩ : ∃ g2, g2 = w2.heap.size := ⟨_, rfl⟩
  have hs2 : W1.heap.size ≤ g2 := by rw [hg2]; exact hb2.size
  have HB2 := Lib.hid (show Below W1.heap.size W1 W2 by rw [hW2]; exact hb2.alloc hb2.size _)
  have HVB := Lib.hid (show VarAt W2 g2 b2 s2 l2 c2 by rw [hW2, hg2]; exact VarAt.made _ _ _ _ _)
  have HN2 := Lib.hid (show NumIs 15 W2 _ _ by rw [hW2]; exact (hn2.mono HK2.out).alloc _)
  have HV12 := Lib.hid (HV1.out.below HB2.out HV1.out.lt)
  have HV22 := Lib.hid (HV2.out.below HB2.out HV2.out.lt)
  have HVA2 := Lib.hid (HVA.out.below HB2.out HVA.out.lt)
  have HN12 := Lib.hid (HN1.out.below HB2.out)
  have HW2 := Lib.hid hW2
  have HG2 := Lib.hid hg2
  clear hn2 hb2 hW2 hg2
  have a0 := HVA2.out.c0
  have a1 := HVA2.out.c1
  have e0 := HVB.out.c0
  have e1 := HVB.out.c1
  have y0 := HV12.out.c0
  have y1 := HV12.out.c1
  have yf0 := HV12.out.f0 0
  have yf1 := HV12.out.f0 1
  have z0 := HV22.out.c0
  have z1 := HV22.out.c1
  have zf0 := HV22.out.f0 0
  have zf1 := HV22.out.f0 1
  go_wp2_with fail
  rw [← HG2.out, ← HW2.out]
  have hlt2 : g + 1 < W.heap.size := V2.out.lt
  have hlt3 : g + 1 < W1.heap.size := HV2.out.lt
  have n1 : g ≠ g1 := by omega
  have n2 : g ≠ g2 := by omega
  have n3 : g + 1 ≠ g1 := by omega
  have n4 : g + 1 ≠ g2 := by omega
  clear hs1 hs2 hlt2 hlt3
  have HB02 := Lib.hid ((HB.out.trans (HB1.out.mono (Nat.le_of_lt (Nat.lt_of_lt_of_le V1.out.lt (Nat.le_refl _))))).trans (HB2.out.mono (Nat.le_of_lt HV1.out.lt)))
  have HNA := Lib.hid ((HN12.out.set (b' := b1) (s' := s1) (l' := l1) (c' := c1) HV12.out).set (b' := b2) (s' := s2) (l' := l2) (c' := c2) (HV22.out.other (x := .bool b1) (y := .slice s1 l1 c1) (show g + 1 ≠ g by omega)))
  have HNB := Lib.hid ((HN2.out.set (b' := b1) (s' := s1) (l' := l1) (c' := c1) HV12.out).set (b' := b2) (s' := s2) (l' := l2) (c' := c2) (HV22.out.other (x := .bool b1) (y := .slice s1 l1 c1) (show g + 1 ≠ g by omega)))
  have HVX := Lib.hid ((HV12.out.set (b' := b1) (s' := s1) (l' := l1) (c' := c1)).other (x := .bool b2) (y := .slice s2 l2 c2) (show g ≠ g + 1 by omega))
  have HVY := Lib.hid ((HV22.out.other (x := .bool b1) (y := .slice s1 l1 c1) (show g + 1 ≠ g by omega)).set (b' := b2) (s' := s2) (l' := l2) (c' := c2))
  have q0 := HVX.out.c0
  have q1 := HVX.out.c1
  have r0 := HVY.out.c0
  have r1 := HVY.out.c1
  have HQ0 := Lib.hid q0
  have HQ1 := Lib.hid q1
  have HR0 := Lib.hid r0
  have HR11 := Lib.hid r1
  have HBZ := Lib.hid ((((HB02.out.setCell (p := ⟨g, 0, none⟩) (Nat.le_refl _) (.bool b1)).setCell (p := ⟨g, 1, none⟩) (Nat.le_refl _) (.slice s1 l1 c1)).setCell (p := ⟨g + 1, 0, none⟩) (Nat.le_succ _) (.bool b2)).setCell (p := ⟨g + 1, 1, none⟩) (Nat.le_succ _) (.slice s2 l2 c2)).drew
  have HOO : Hid (o.isSome = (errZ o 2 == 0)) := Lib.hid (by cases o <;> rfl)
  have HPP : Hid (p.isSome = (errZ p 2 == 0)) := Lib.hid (by cases p <;> rfl)
  clear q0 q1 r0 r1
  generalize errZ p 2 = zp at *
  generalize errZ o 2 = zo at *
  by_cases h1 : zo = 0
  · subst h1
    by_cases h2 : zp = 0
    · subst h2
      go_region
      all_goals
        go_wp2
        refine bodyPost_ret (v := .tuple #[.agg #[.bool b1, .slice s1 l1 c1], .agg #[.bool b2, .slice s2 l2 c2], .bool true]) ?_ ?_ ?_
        · simp [results, Tryd.results20, go_sem, HQ0.out, HQ1.out, HR0.out, HR11.out]
        · rfl
        · exact ⟨⟨_, _, _, _, _, _, _, _, by rw [HOO.out, HPP.out]; rfl, HNA.out.below (Below.refl _ _).drew, HNB.out.below (Below.refl _ _).drew⟩, by rw [← HG.out]; exact HBZ.out⟩
    · have d3 : (zp == 0) = false := beq_false_of_ne h2
      go_region
      all_goals
        go_wp2
        refine bodyPost_ret (v := .tuple #[.agg #[.bool b1, .slice s1 l1 c1], .agg #[.bool b2, .slice s2 l2 c2], .bool false]) ?_ ?_ ?_
        · simp [results, Tryd.results20, go_sem, HQ0.out, HQ1.out, HR0.out, HR11.out]
        · rfl
        · exact ⟨⟨_, _, _, _, _, _, _, _, by rw [HOO.out, HPP.out, d3]; rfl, HNA.out.below (Below.refl _ _).drew, HNB.out.below (Below.refl _ _).drew⟩, by rw [← HG.out]; exact HBZ.out⟩
  · have d3 : (zo == 0) = false := beq_false_of_ne h1
    go_region
    all_goals
      go_wp2
      refine bodyPost_ret (v := .tuple #[.agg #[.bool b1, .slice s1 l1 c1], .agg #[.bool b2, .slice s2 l2 c2], .bool false]) ?_ ?_ ?_
      · simp [results, Tryd.results20, go_sem, HQ0.out, HQ1.out, HR0.out, HR11.out]
      · rfl
      · exact ⟨⟨_, _, _, _, _, _, _, _, by rw [HOO.out, d3, Bool.false_and], HNA.out.below (Below.refl _ _).drew, HNB.out.below (Below.refl _ _).drew⟩, by rw [← HG.out]; exact HBZ.out⟩

/-- two texts, whatever they are -/
def TwAll (s t : ByteArray) (w : World) (e : Ending) (w' : World) : Prop :=
  (∃ b1 s1 l1 c1 b2 s2 l2 c2 ok, e = .returned (.tuple #[.agg #[.bool b1, .slice s1 l1 c1], .agg #[.bool b2, .slice s2 l2 c2], .bool ok]) ∧ (ok = true → ∃ x y, NumIs 15 w' (.agg #[.bool b1, .slice s1 l1 c1]) x ∧ NumIs 15 w' (.agg #[.bool b2, .slice s2 l2 c2]) y ∧ readZ s.data.toList = some x ∧ readZ t.data.toList = some y)) ∧ Below w.heap.size w w'
theorem ptwo_all (s t : ByteArray) (w : World) : Calls Tryd.prog 20 #[.string s, .string t] w (TwAll s t w) := by
  by_cases h : 130 < s.size ∨ 130 < t.size
  · refine (ptwo_long s t h w).mono ?_
    rintro e w' ⟨⟨b1, s1, l1, c1, b2, s2, l2, c2, rfl⟩, hb⟩
    exact ⟨⟨_, _, _, _, _, _, _, _, _, rfl, fun h => by cases h⟩, hb⟩
  · refine (ptwo_some s t _ _ rfl rfl (by omega) (by omega) w).mono ?_
    rintro e w' ⟨⟨b1, s1, l1, c1, b2, s2, l2, c2, rfl, hx, hy⟩, hb⟩
    refine ⟨⟨_, _, _, _, _, _, _, _, _, rfl, fun h => ?_⟩, hb⟩
    generalize readZ s.data.toList = o at *
    generalize readZ t.data.toList = p at *
    cases o with
    | none => cases h
    | some x =>
      cases p with
      | none => cases h
      | some y => exact ⟨x, y, hx, hy, rfl, rfl⟩
end Go.Proofs.YtibhfcnjmilepaaDoor
