import Derived.Test.YtkcffgkdejjjjaaDoorT
import Derived.Test.YtkcffgkdejjjjaaDoorQ
namespace Go.Proofs.YtkcffgkdejjjjaaDoor
open Go.RowKit Go.Sort

set_option maxRecDepth 100000 in
set_option maxHeartbeats 1000000 in
theorem itoa_any (tab : Nat → Int) (n : Int) (h0 : -9223372036854775808 ≤ n) (h1 : n ≤ 9223372036854775807) (hs : ¬ (0 ≤ n ∧ n < 100)) (w : World) (ht : TabW w tab) :
    Calls Tryd.prog 33 #[.int .i64 n] w fun e w' => e = .returned (.string ⟨(ftext tab n).toArray⟩) ∧ ∃ k os, w' = grow (w.drewN k) os := by
  have F : Calls Tryd.prog 38 #[.int .i64 n, .int .i64 10] w fun e w' => e = .returned (.string ⟨(ftext tab n).toArray⟩) ∧ ∃ k os, w' = grow (w.drewN k) os := by
    by_cases hneg : n < 0
    · obtain ⟨u, rfl⟩ : ∃ u : Nat, n = -(u : Int) := ⟨n.natAbs, by omega⟩
      exact formatInt_neg tab u (by omega) (by omega) w ht
    · obtain ⟨u, rfl⟩ : ∃ u : Nat, n = u := ⟨n.toNat, by omega⟩
      exact formatInt_pos tab u (by omega) (by omega) w ht
  have HF := Lib.hid F
  clear F ht hs h0 h1
  have G : Calls Tryd.prog 37 #[.int .i64 n] w fun e w' => e = .returned (.string ⟨(ftext tab n).toArray⟩) ∧ ∃ k os, w' = grow (w.drewN k) os := by
    go_enter Tryd.func37, Tryd.ntmps37
    go_wp2_with (go_at_call 38; refine HF.out.mono ?_; rintro e w' ⟨rfl, k, os, rfl⟩)
    go_ret
    exact ⟨rfl, k, os, rfl⟩
  have HG := Lib.hid G
  clear G
  go_enter Tryd.func33, Tryd.ntmps33
  go_wp2_with (go_at_call 37; refine HG.out.mono ?_; rintro e w' ⟨rfl, k, os, rfl⟩)
  go_ret
  exact ⟨rfl, k, os, rfl⟩

theorem ftext_length (tab : Nat → Int) (n : Int) (h0 : -9223372036854775808 ≤ n) (h1 : n ≤ 9223372036854775807) (hn : n ≠ 0) : (ftext tab n).length ≤ 21 := by
  have hb := (nds_bound tab n.natAbs (by omega) (by omega)).1
  unfold ftext
  split
  · rw [List.length_cons, flist_length]; omega
  · rw [flist_length]; omega

set_option maxHeartbeats 400000 in
theorem errno_tab (tab : Nat → Int) (n : Int) (h0 : -9223372036854775808 ≤ n) (h1 : n ≤ 9223372036854775807) (hs : ¬ (0 ≤ n ∧ n < 100)) (w : World) (ht : TabW w tab) :
    Calls Tryd.prog 23 #[.int .i64 n] w fun e w' => e = .returned (.string ⟨(head ++ ftext tab n).toArray⟩) ∧ Below w.heap.size w w' := by
  have hl := ftext_length tab n h0 h1 (by omega)
  have C := itoa_any tab n h0 h1 hs w ht
  have HC := Lib.hid C
  clear C h0 h1 ht hs
  go_enter Tryd.func23, Tryd.ntmps23
  go_wp2_with (go_at_call 33; refine HC.out.mono ?_; rintro e w' ⟨rfl, k, os, hw⟩; have HW := Lib.hid hw; clear hw)
  go_ret
  exact ⟨by rw [← ba_append]; rfl, by rw [HW.out]; exact Lib.below_grow _ _ (Nat.le_refl _) k os⟩

/-- whatever the table holds, the code has one text in every world that has kept what w0 holds -/
theorem says_tab (tab : Nat → Int) (n : Int) (h0 : -9223372036854775808 ≤ n) (h1 : n ≤ 9223372036854775807) (w0 : World) (ht : TabW w0 tab) : ∃ T, Says w0 n T ∧ T.length ≤ 1000 := by
  by_cases hs : 0 ≤ n ∧ n < 100
  · obtain ⟨i, rfl⟩ : ∃ i : Nat, n = i := ⟨n.toNat, by omega⟩
    refine ⟨_, says_small i (by omega) w0, ?_⟩
    have := Lib.itoa_length_le i (by omega) (by omega)
    simp only [Lib.itoa, show ¬ ((i : Int) < 0) by omega, if_false, Int.toNat_natCast] at this
    rw [List.length_append, show head.length = 13 from rfl]; omega
  · refine ⟨_, fun W hb => errno_tab tab n h0 h1 hs W (ht.below ht.1 hb), ?_⟩
    have := ftext_length tab n h0 h1 (by omega)
    rw [List.length_append, show head.length = 13 from rfl]; omega
end Go.Proofs.YtkcffgkdejjjjaaDoor
