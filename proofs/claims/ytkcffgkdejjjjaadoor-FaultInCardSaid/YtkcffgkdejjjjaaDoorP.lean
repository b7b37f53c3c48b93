import Derived.Test.YtkcffgkdejjjjaaDoorO
namespace Go.Proofs.YtkcffgkdejjjjaaDoor
open Go.RowKit

theorem light_len {path : List ByteArray} (h : lightB path = true) : path.length ≤ 40 ∧ (places path).length ≤ 4000 := by
  unfold lightB at h
  simp only [Bool.and_eq_true, decide_eq_true_eq] at h
  obtain ⟨h1, h2⟩ := h
  rw [show min path.length 60 = path.length by omega] at h2
  have key : ∀ k, k ≤ path.length → (lsum path k < 3000 → (places (path.take k)).length = lsum path k + 2 * k) := by
    intro k
    induction k with
    | zero => intro _ _; simp [places, lsum]
    | succ k ih =>
      intro hk hl
      rw [lsum_succ path k (by omega)] at hl
      rw [places_succ path k (by omega), lsum_succ path k (by omega), List.length_append, List.length_append, ih (by omega) (by omega)]
      have : (path.getD k ByteArray.empty).data.toList.length = (path.getD k ByteArray.empty).size := Array.length_toList
      rw [this, show ([58, 32] : List UInt8).length = 2 from rfl]
      omega
  have := key path.length (Nat.le_refl _) h2
  rw [List.take_of_length_le (Nat.le_refl _)] at this
  exact ⟨h1, by omega⟩

set_option maxHeartbeats 400000 in
theorem make_zero (v : Value) (w : World) :
    Calls Tryd.prog 7 #[.int .i64 0, v] w fun en w' => en = .returned .nilIface ∧ w = w' := by
  go_enter Tryd.func7, Tryd.ntmps7
  go_wp2
  go_ret
  exact ⟨rfl, rfl⟩

set_option maxRecDepth 100000 in
set_option maxHeartbeats 2000000 in
theorem tells_dark (code other : Int) (v : Value) (path : List ByteArray) (w : World) (hs : Strs w v path) (hl : lightB path = false) (hg : Et w) :
    Calls Tryd.prog 3 #[.int .i64 code, .int .i64 other, v] w fun e w' => e = .returned (.bool true) ∧ Below w.heap.size w w' := by
  have A := awake_any w hg
  have HS := Lib.hid hs
  have HL := Lib.hid hl
  clear hs hl hg
  go_enter Tryd.func3, Tryd.ntmps3
  go_wp2_with fail
  refine A.mono ?_
  rintro e w1 ⟨rfl, hb⟩
  clear A
  go_wp2_with fail
  refine (light_calls v path _ (HS.out.below hb)).mono ?_
  rintro e w2 ⟨rfl, rfl⟩
  rw [HL.out]
  go_wp2
  go_ret
  exact ⟨rfl, hb⟩

set_option maxRecDepth 100000 in
set_option maxHeartbeats 2000000 in
theorem tells_zero (other : Int) (v : Value) (path : List ByteArray) (w : World) (hs : Strs w v path) (hl : lightB path = true) (hg : Et w) :
    Calls Tryd.prog 3 #[.int .i64 0, .int .i64 other, v] w fun e w' => e = .returned (.bool true) ∧ Below w.heap.size w w' := by
  have A := awake_any w hg
  have HS := Lib.hid hs
  have HL := Lib.hid hl
  clear hs hl hg
  go_enter Tryd.func3, Tryd.ntmps3
  go_wp2_with fail
  refine A.mono ?_
  rintro e w1 ⟨rfl, hb⟩
  clear A
  go_wp2_with fail
  refine (light_calls v path _ (HS.out.below hb)).mono ?_
  rintro e w2 ⟨rfl, rfl⟩
  rw [HL.out]
  go_wp2_with fail
  refine (make_zero v _).mono ?_
  rintro e w2 ⟨rfl, rfl⟩
  go_wp2_with fail
  refine (text_nil _).mono ?_
  rintro e w2 ⟨rfl, rfl⟩
  go_wp2_with fail
  refine (pathF_nil _).mono ?_
  rintro e w2 ⟨rfl, rfl⟩
  go_wp2_with fail
  refine (isF_nil _ _).mono ?_
  rintro e w2 ⟨rfl, rfl⟩
  go_wp2
  go_ret
  exact ⟨rfl, hb⟩

theorem same_calls (v v' : Value) (ss : List ByteArray) (w : World) (h : Strs w v ss) (h' : Strs w v' ss) :
    Calls Tryd.prog 11 #[v, v'] w fun e w' => e = .returned (.bool true) ∧ ∃ n, w' = w.drewN n := by
  rcases h with ⟨rfl, a, c, rfl⟩ | ⟨b, off, cap, rfl, hb, hm, hc⟩
  · rcases h' with ⟨_, a, c, rfl⟩ | ⟨b', off', cap', rfl, hb', hm', hc'⟩
    · exact (same_none _ _ _ _ w).mono fun e w' ⟨he, hw⟩ => ⟨he, 0, by rw [← hw]; rfl⟩
    · exact (same_none _ _ _ _ w).mono fun e w' ⟨he, hw⟩ => ⟨he, 0, by rw [← hw]; rfl⟩
  · rcases h' with ⟨rfl, a, c, rfl⟩ | ⟨b', off', cap', rfl, hb', hm', hc'⟩
    · exact (same_none _ _ _ _ w).mono fun e w' ⟨he, hw⟩ => ⟨he, 0, by rw [← hw]; rfl⟩
    · exact same_some b off cap b' off' cap' _ ss w hm rfl hc hc'

theorem below_draws {B : Nat} {a w : World} (h : Below B a w) (n : Nat) : Below B a (w.drewN n) := ⟨h.os, h.tape, h.output, h.size, h.block⟩
end Go.Proofs.YtkcffgkdejjjjaaDoor
