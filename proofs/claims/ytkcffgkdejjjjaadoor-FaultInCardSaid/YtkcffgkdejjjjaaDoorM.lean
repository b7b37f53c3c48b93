import Derived.RangeFuncBox
import Derived.RangeFuncLeaves
import Derived.RangeFuncNested
import Derived.RangeFuncBound
import Derived.RangeFuncCalls
import Derived.Shelf.Abstract
import Derived.WalkKit
import Derived.OwnWalkIn
import Derived.TacticsInMore
import Derived.LoopNIn
import Derived.LoopIn
import Derived.Test.YtkcffgkdejjjjaaDoorL
namespace Go.Proofs.YtkcffgkdejjjjaaDoor
open Go.RowKit Go.Shelf

attribute [local go_sem] Oper.semAt_some

/-- what has come when k rounds are over -/
def upto {α : Type} (f : Nat → α) (k : Nat) : List α := (List.range k).map f
theorem upto_succ {α : Type} (f : Nat → α) (k : Nat) : upto f (k + 1) = upto f k ++ [f k] := by simp [upto, List.range_succ]
theorem upto_length {α : Type} (f : Nat → α) (k : Nat) : (upto f k).length = k := by simp [upto]

/-- all blocks below n₀ but eb are as they were -/
def Kp (eb n₀ : Nat) (W W' : World) : Prop := ∀ k, k < n₀ → k ≠ eb → W'.heap[k]? = W.heap[k]?
theorem Kp.refl (eb n₀ : Nat) (W : World) : Kp eb n₀ W W := fun _ _ _ => rfl
theorem Kp.trans {eb n₀ : Nat} {A B C : World} (h : Kp eb n₀ A B) (k : Kp eb n₀ B C) : Kp eb n₀ A C := fun i h1 h2 => (k i h1 h2).trans (h i h1 h2)
theorem Kp.of_below {eb n₀ : Nat} {A B : World} (h : Below n₀ A B) : Kp eb n₀ A B := fun k h1 _ => h.block k h1
theorem Kp.cell {eb n₀ : Nat} {A B : World} (h : Kp eb n₀ A B) {k o : Nat} (h1 : k < n₀) (h2 : k ≠ eb) : B.cell? ⟨k, o, none⟩ = A.cell? ⟨k, o, none⟩ := by
  unfold World.cell?; rw [show B.heap[(⟨k, o, none⟩ : Addr).block]? = A.heap[(⟨k, o, none⟩ : Addr).block]? from h k h1 h2]

/-- the j-th from behind, with its place -/
def back (ss : List ByteArray) (j : Nat) : Nat × ByteArray := (ss.length - 1 - j, ss.getD (ss.length - 1 - j) ByteArray.empty)

set_option maxRecDepth 100000 in
set_option maxHeartbeats 2000000 in
theorem back1_in (F : Fence) (n : Nat) (h24 : F.fn 24) (hro : F.round = none) (hn : 1 ≤ n) (l Bs eb n₀ b off cap : Nat) (ss : List ByteArray) (hreach : ss.length ≤ 1000) (hb : b < n₀) (hbe : b ≠ eb) (J Jx : List (Nat × ByteArray) → World → Prop)
    (hY : ∀ pre x W, J pre W → pre.length < ss.length → YieldAt F (n - 1) Tryd.prog l #[.int .i64 (x.1 : Int), .string x.2] W fun e W' =>
      (e = .returned (.bool true) ∧ J (pre ++ [x]) W' ∧ Kp eb n₀ W W') ∨ (e = .returned (.bool false) ∧ Jx (pre ++ [x]) W'))
    (W : World) (hBs : W.cell? ⟨Bs, 0, none⟩ = some (.slice (some ⟨b, off, none⟩) ss.length cap)) (hBs' : Bs < n₀) (hBe : Bs ≠ eb) (hc : ∀ j, j < ss.length → W.cell? ⟨b, off + j, none⟩ = some (.string (ss.getD j ByteArray.empty))) (h0 : J [] W) :
    CallsIn F n Tryd.prog 24 #[.func (.yield l) #[] #[], .pointer (some ⟨Bs, 0, none⟩)] W fun e W' => (∃ v, e = .returned v) ∧
      ((∃ ys, ys = upto (back ss) ss.length ∧ J ys W') ∨ (∃ pre, (∃ k, k ≤ ss.length ∧ pre = upto (back ss) k) ∧ Jx pre W')) := by
  refine callsIn_of_wp Tryd.func24 rfl h24 ?_ hro
  simp only [Tryd.ntmps24, List.size_toArray, List.length_cons, List.length_nil, Nat.reduceAdd, Nat.reduceSub, Array.replicate_succ, Array.replicate_zero, List.push_toArray, List.append_toArray, List.nil_append, List.cons_append]
  gi_wp2
  gi_loopw [3] (fun i wr => ∃ k : Nat, k ≤ ss.length ∧ i = .int .i64 ((ss.length : Int) - 1 - k) ∧ J (upto (back ss) k) wr ∧ Kp eb n₀ W wr)
    (fun i _ => (intOf i + 1).toNat)
  case atStart => exact ⟨0, Nat.zero_le _, by simp, h0, Kp.refl _ _ _⟩
  case round =>
    obtain ⟨k, hk, rfl, hJs, hnx⟩ := hrel
    have hbs : wr.cell? ⟨Bs, 0, none⟩ = some (.slice (some ⟨b, off, none⟩) ss.length cap) := (hnx.cell hBs' hBe).trans hBs
    by_cases hlt : k < ss.length
    · obtain ⟨fn, tmps, assign, body, hy, hR⟩ := hY _ (back ss k) wr hJs (by rw [upto_length]; exact hlt)
      obtain ⟨q, hq⟩ : ∃ q : Nat, q = ss.length - 1 - k := ⟨_, rfl⟩
      obtain ⟨s, hs⟩ : ∃ s, s = ss.getD q ByteArray.empty := ⟨_, rfl⟩
      have hback : back ss k = (q, s) := by unfold back; rw [hs, hq]
      have hcx : wr.cell? ⟨b, off + q, none⟩ = some (.string s) := by rw [hs]; exact (hnx.cell hb hbe).trans (hc q (by omega))
      have hi : (ss.length : Int) - 1 - k = q := by omega
      have hql : q < ss.length := by omega
      rw [hi]
      rw [hback] at hy
      dsimp only at hy
      have HR := Lib.hid hR
      have HQ := Lib.hid hq
      have HB := Lib.hid hback
      clear hR hq hs hback hi hc
      gi_wp2
      refine HR.out.mono ?_
      rintro e W3 (⟨rfl, hJ3, hk3⟩ | ⟨rfl, hJx3⟩)
      · gi_wp2
        go_roundw
        case rel => exact ⟨k + 1, by omega, by have := HQ.out; exact congrArg (Value.int .i64) (by omega), by rw [upto_succ]; exact hJ3, hnx.trans hk3⟩
        case measure => simp [intOf]
      · gi_wp2
        refine bodyPost_ret (results_none rfl _ _ _) rfl ?_
        exact ⟨⟨_, rfl⟩, .inr ⟨_, ⟨k + 1, by omega, (upto_succ _ _).symm⟩, hJx3⟩⟩
    · obtain rfl : k = ss.length := by omega
      rw [show (ss.length : Int) - 1 - ss.length = -1 by omega]
      gi_wp2
      go_end0
      exact ⟨⟨_, rfl⟩, .inl ⟨_, rfl, hJs⟩⟩

set_option maxRecDepth 100000 in
set_option maxHeartbeats 1000000 in
theorem back1_nil_in (F : Fence) (n : Nat) (h24 : F.fn 24) (hro : F.round = none) (l Bs : Nat) (J : List (Nat × ByteArray) → World → Prop) (W : World) (a : Option Addr) (c : Nat) (hBs : W.cell? ⟨Bs, 0, none⟩ = some (.slice a 0 c)) (h0 : J [] W) :
    CallsIn F n Tryd.prog 24 #[.func (.yield l) #[] #[], .pointer (some ⟨Bs, 0, none⟩)] W fun e W' => (∃ v, e = .returned v) ∧ J [] W' := by
  refine callsIn_of_wp Tryd.func24 rfl h24 ?_ hro
  simp only [Tryd.ntmps24, List.size_toArray, List.length_cons, List.length_nil, Nat.reduceAdd, Nat.reduceSub, Array.replicate_succ, Array.replicate_zero, List.push_toArray, List.append_toArray, List.nil_append, List.cons_append]
  gi_wp2
  gi_loopw [3] (fun i wr => i = .int .i64 (-1) ∧ J [] wr) (fun _ _ => 0)
  case atStart => exact ⟨rfl, h0⟩
  case round =>
    obtain ⟨rfl, hJs⟩ := hrel
    gi_wp2
    go_end0
    exact ⟨⟨_, rfl⟩, hJs⟩

set_option maxHeartbeats 1000000 in
theorem backward_in (F : Fence) (n : Nat) (h15 : F.fn 15) (hro : F.round = none) (a : Option Addr) (len cap : Nat) (w : World) :
    CallsIn F n Tryd.prog 15 #[.slice a len cap] w fun e w' => e = .returned (.func (.func 24) #[] #[.pointer (some ⟨w.heap.size, 0, none⟩)]) ∧ w' = w.alloc (.cells #[.slice a len cap] 23) := by
  refine callsIn_of_wp Tryd.func15 rfl h15 ?_ hro
  simp only [Tryd.ntmps15, List.size_toArray, List.length_cons, List.length_nil, Nat.reduceAdd, Nat.reduceSub, Array.replicate_succ, Array.replicate_zero, List.push_toArray, List.append_toArray, List.nil_append, List.cons_append]
  gi_wp2
  go_ret
  exact ⟨rfl, rfl⟩

theorem back_stops (F : Fence) (n : Nat) (h24 : F.fn 24) (hro : F.round = none) (hn : 1 ≤ n) (Bs eb n₀ : Nat) (sv : Value) (ss : List ByteArray) (hreach : ss.length ≤ 1000) (w : World) (hBs : Bs < n₀) (hBe : Bs ≠ eb) (hn₀ : n₀ ≤ w.heap.size)
    (hc : w.cell? ⟨Bs, 0, none⟩ = some sv) (hI : Strs w sv ss) (hlow : ∀ p n c, sv = .slice (some p) n c → n ≠ 0 → p.block < n₀ ∧ p.block ≠ eb) :
    SeqStopsK F n Tryd.prog 24 #[.pointer (some ⟨Bs, 0, none⟩)] (fun x : Nat × ByteArray => #[Value.int .i64 (x.1 : Int), Value.string x.2]) (Kp eb n₀) (fun ys => ys = upto (back ss) ss.length)
      (fun pre => ∃ k, k ≤ ss.length ∧ pre = upto (back ss) k) ss.length w := fun l J Jx W hW _ _ hY h0 => by
  have hc' := (hW.cell (p := ⟨Bs, 0, none⟩) (by show Bs < _; omega)).trans hc
  rcases hI.below hW with ⟨rfl, a, c, rfl⟩ | ⟨b, off, cap, rfl, hb, hm, hcs⟩
  · exact (back1_nil_in F n h24 hro l Bs J W a c hc' h0).mono fun e W' ⟨he, hj⟩ => ⟨he, .inl ⟨_, rfl, hj⟩⟩
  · by_cases hz : ss.length = 0
    · obtain rfl := List.length_eq_zero_iff.1 hz
      exact (back1_nil_in F n h24 hro l Bs J W _ _ hc' h0).mono fun e W' ⟨he, hj⟩ => ⟨he, .inl ⟨_, rfl, hj⟩⟩
    · exact back1_in F n h24 hro hn l Bs eb n₀ b off cap ss hreach (hlow _ _ _ rfl hz).1 (hlow _ _ _ rfl hz).2 J Jx hY W hc' hBs hBe hcs h0
end Go.Proofs.YtkcffgkdejjjjaaDoor
