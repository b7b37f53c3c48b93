import Derived.Test.YtfboejdddgedcaaHpZ
namespace Go.Proofs.Ytfboejdddgedcaa
open Go.RowKit

/-- there is room for so many words -/
def RmU (n : Nat) (v : Value) : Prop := (n = 0 ∧ v = .slice none 0 0) ∨ ∃ g c, v = .slice (some ⟨g, 0, none⟩) 0 c ∧ n ≤ c
theorem grow_zero (k : Nat) : (Builtin.zeroCells (Value.int .u64 0).cells k).size = k := by
  unfold Builtin.zeroCells; rw [Array.size_map, Array.size_range]
  show k * 1 = k
  omega

set_option maxRecDepth 20000 in
set_option maxHeartbeats 1600000 in
/-- slices.Grow of a row without words -/
theorem pgrow_any {w : World} {v : Value} (h : RowM w v []) (n : Nat) (hn : n ≤ 1048576) :
    Calls Try.prog 44 #[v, .int .i64 n] w fun e w' => ∃ v', e = .returned v' ∧ RowM w' v' [] ∧ (v'.ownBlock = v.ownBlock ∨ v'.ownBlock = some w.heap.size) ∧ Below w.heap.size w w' ∧ RmU n v' := by
  obtain ⟨a, c, rfl, hl, hc⟩ := h.val
  change RowM w (.slice a 0 c) [] at h
  have hnil : a = none → c = 0 := by
    rintro rfl
    rcases h.2 with ⟨e, _⟩ | ⟨g, cap, cur, e, _⟩
    · cases e; rfl
    · cases e
  have hc63 : (c : Int) ≤ 9223372036854775807 := by unfold maxLen at hc; omega
  have h1 : ¬ ((n : Int) < 0) := by omega
  by_cases hroom : n ≤ c
  · have HPOST := Lib.hid (show ∃ v', Ending.returned (.slice a 0 c) = .returned v' ∧ RowM w v' [] ∧ (v'.ownBlock = (Value.slice a 0 c).ownBlock ∨ v'.ownBlock = some w.heap.size) ∧ Below w.heap.size w w ∧ RmU n v' by
      refine ⟨_, rfl, h, .inl rfl, Below.refl _ _, ?_⟩
      rcases h.2 with ⟨e, _⟩ | ⟨g, cap, cur, e, _⟩
      · cases e; exact .inl ⟨by omega, rfl⟩
      · cases e; exact .inr ⟨_, _, rfl, hroom⟩)
    have h4 : ¬ ((n : Int) - (c : Int) > 0) := by omega
    have h3 : wrap64 ((n : Int) - (c : Int)) = (n : Int) - (c : Int) := by unfold wrap64; omega
    clear h hnil
    go_enter Try.func44, Try.ntmps44
    go_wp2
    go_ret
    exact HPOST.out
  obtain ⟨i0, hi, hz0, hz1, hz2⟩ := info_partsU Try.infoU
  have h4 : (n : Int) - (c : Int) > 0 := by omega
  have h3 : wrap64 ((n : Int) - (c : Int)) = (n : Int) - (c : Int) := by unfold wrap64; omega
  obtain ⟨cs, hcs, hold⟩ : ∃ cs : List Value, cs.length = c * i0.size ∧ (Builtin.firstCells i0.size c (.slice a c c)).run Try.prog w.drew = .ok cs.toArray w.drew := by
    rcases h.2 with ⟨e, _⟩ | ⟨g, cap, cur, e, hb, hg, k1, k2, k3, _⟩
    · cases e
      exact ⟨[], by simp, run_firstCells_none w.drew i0.size 0 0 0⟩
    · cases e
      refine ⟨cur.toList, by rw [hz1, Array.length_toList]; exact k3, run_firstCells_some w.drew i0.size c ⟨g, 0, none⟩ c c cur.toList (by rw [hz1, Array.length_toList]; exact k3) fun j u hj => ?_⟩
      rw [addh_none]
      show w.cell? ⟨g, j, none⟩ = some u
      rw [Lib.cell_of_heap hg j]
      rw [← hj, Array.getElem?_toList]
  have hrz : ∀ ty, (Builtin.append_ #[31, 3] ty #[.slice a c c, .int .i64 ((n : Int) - (c : Int))]).run Try.prog w =
      .ok (.slice (some ⟨w.heap.size, 0, none⟩) n (grownCap w n c 32)) (w.drew.alloc (.cells (cs.toArray ++ Builtin.zeroCells (Value.int .u64 0).cells (n - c) ++ Builtin.zeroCells (Value.int .u64 0).cells (grownCap w n c 32 - n)) 32)) := fun ty => by
    have h := Lib.run_append_grow_zeros w 31 3 ty 32 i0 _ .i64 .i64 Try.underlying31 Try.underlying3 hi hz0 a c c cs hold (n - c) (by omega) (by omega) (by omega) (by omega)
      (by rw [hz2]; omega) (by rw [show c + (n - c) = n by omega]; exact growslice_fits (by omega) (by rw [hz2]; omega))
    rw [show c + (n - c) = n by omega] at h
    rw [show (n : Int) - (c : Int) = ((n - c : Nat) : Int) by omega]
    exact h
  have hGn : n ≤ grownCap w n c 32 := grownCap_ge w _ _ _
  have hG63 : grownCap w n c 32 ≤ maxLen := grownCap_le_maxLen w n c 32 (by unfold maxLen; omega)
  obtain ⟨G, hG⟩ : ∃ G, G = grownCap w n c 32 := ⟨_, rfl⟩
  rw [← hG] at hrz hGn hG63
  obtain ⟨cur, hcur⟩ : ∃ cur, cur = cs.toArray ++ Builtin.zeroCells (Value.int .u64 0).cells (n - c) ++ Builtin.zeroCells (Value.int .u64 0).cells (G - n) := ⟨_, rfl⟩
  rw [← hcur] at hrz
  have hcsz : cur.size = G * 1 := by
    rw [hcur]
    simp only [Array.size_append, grow_zero, List.size_toArray, hcs, hz1]
    omega
  have HPOST := Lib.hid (show ∃ v', Ending.returned (.slice (some ⟨w.heap.size, 0, none⟩) 0 G) = .returned v' ∧ RowM (w.drew.alloc (.cells cur 32)) v' [] ∧ (v'.ownBlock = (Value.slice a 0 c).ownBlock ∨ v'.ownBlock = some w.heap.size) ∧ Below w.heap.size w (w.drew.alloc (.cells cur 32)) ∧ RmU n v' from
    ⟨_, rfl, World.ownsRow_made (base := 0) (e := 32) (size := 1) w.drew cur G (Nat.zero_le _) hG63 hcsz, .inr rfl, (Below.refl _ _).drew.alloc (Nat.le_refl _) _, .inr ⟨_, _, rfl, hGn⟩⟩)
  have hG2 : (G : Int) ≤ 9223372036854775807 := by unfold maxLen at hG63; omega
  clear h hold hG hcur hcs hcsz hGn hG63 hi hz0 hz1 hz2
  go_enter Try.func44, Try.ntmps44
  cases a with
  | none =>
    obtain rfl := hnil rfl
    go_wp2_with (at_builtin; refine Lib.wpList_append_run _ rfl _ _ _ _ rfl _ _ rfl rfl _ _ (hrz _) ?_)
    all_goals (go_ret; exact HPOST.out)
  | some a =>
    obtain ⟨ab, ao, asp⟩ := a
    go_wp2_with (at_builtin; refine Lib.wpList_append_run _ rfl _ _ _ _ rfl _ _ rfl rfl _ _ (hrz _) ?_)
    all_goals (go_ret; exact HPOST.out)

/-- a heap made anew, in memory -/
theorem ph_new (w : World) (N : Nat → Prop) (hN : ∀ b, N b → b < w.heap.size) (n : Nat) (hn : n ≤ 1048576) :
    PhAt (w.alloc (.cells #[.int .i64 n, .slice none 0 0, .slice none 0 0, .slice none 0 0, .slice none 0 0] 66)) N w.heap.size n [] := by
  have hr : ∀ w' : World, RowM w' (.slice none 0 0) [] := fun w' => World.ownsRow_nil _ _ _ _
  have hd : Dj (.slice none 0 0) (.slice none 0 0) := fun g hg => by cases hg
  refine ⟨_, _, _, _, [], [], [], ⟨heap_alloc_new _ _, hr _, hr _, hr _, hr _, nofun, nofun, nofun, nofun, hd, hd, hd, hd, hd, hd, fun b hb => ?_⟩, ⟨LayP.nil _, BitsP.zeros (by simp), by simp, Nat.zero_le _, hn, by simp, by simp, fun k hk => absurd hk (Nat.not_lt_zero _)⟩⟩
  have := hN b hb
  exact ⟨by simp; omega, by omega, nofun, nofun, nofun, nofun⟩

set_option maxHeartbeats 800000 in
/-- no heap -/
theorem pnew_bad (n : Int) (hn : n < 16 ∨ 1048576 < n) (w : World) :
    Calls Try.prog 8 #[.int .i64 n] w fun e w' => e = .returned (.tuple #[.pointer none, .int .i64 1]) ∧ w = w' := by
  by_cases h1 : n < 16
  · clear hn
    go_enter Try.func8, Try.ntmps8
    go_wp2
    go_ret2
    exact ⟨rfl, rfl⟩
  · have h2 : 1048576 < n := hn.resolve_left h1
    clear hn
    go_enter Try.func8, Try.ntmps8
    go_wp2
    go_ret2
    exact ⟨rfl, rfl⟩

set_option maxHeartbeats 800000 in
/-- a heap made anew -/
theorem pnew_ok (n : Nat) (h1 : 16 ≤ n) (h2 : n ≤ 1048576) (w : World) :
    Calls Try.prog 8 #[.int .i64 n] w fun e w' => e = .returned (.tuple #[.pointer (some ⟨w.heap.size, 0, none⟩), .int .i64 0]) ∧ w' = w.alloc (.cells #[.int .i64 n, .slice none 0 0, .slice none 0 0, .slice none 0 0, .slice none 0 0] 66) := by
  have h3 : (16 : Int) ≤ n := by omega
  have h4 : (n : Int) ≤ 1048576 := by omega
  go_enter Try.func8, Try.ntmps8
  go_wp2
  go_ret2
  exact ⟨rfl, rfl⟩
end Go.Proofs.Ytfboejdddgedcaa
