import Derived.Test.YtkcffgkdejjjjaaDoorN
import Derived.WalkSmall
import Derived.Lib.ItoaLen
import Derived.Lib.AppendIntMem
namespace Go.Proofs.YtkcffgkdejjjjaaDoor
open Go.RowKit

def head : List UInt8 := [98, 101, 122, 101, 108, 58, 32, 101, 114, 114, 111, 114, 32]

set_option maxHeartbeats 400000 in
theorem errno_small (i : Nat) (h : i < 100) (w : World) :
    Calls Tryd.prog 23 #[.int .i64 i] w fun e w' => e = .returned (.string ⟨(head ++ Lib.decDigits i).toArray⟩) ∧ w = w' := by
  have hl : (Lib.decDigits i).length ≤ 1000 := by
    have := Lib.itoa_length_le i (by omega) (by omega)
    simp only [Lib.itoa, show ¬ ((i : Int) < 0) by omega, if_false, Int.toNat_natCast] at this
    omega
  go_enter Tryd.func23, Tryd.ntmps23
  go_wp2_with (go_at_call 33; refine (Tryd.strconv_Itoa_small _ h _).mono ?_; rintro e w' ⟨rfl, rfl⟩)
  go_ret
  exact ⟨by rw [← ba_append]; rfl, rfl⟩

set_option maxHeartbeats 400000 in
theorem errno_any (n : Int) (h0 : -9223372036854775808 ≤ n) (h1 : n ≤ 9223372036854775807) (w : World) (ht : Lib.TabIs Tryd.prog w "internal/strconv.uint64pow10" .u64 Lib.pow10Tab) :
    Calls Tryd.prog 23 #[.int .i64 n] w fun e w' => e = .returned (.string ⟨(head ++ Lib.itoa n).toArray⟩) ∧ Below w.heap.size w w' := by
  have hl := Lib.itoa_length_le n h0 h1
  have C := Tryd.strconv_Itoa n h0 h1 w ht
  have HC := Lib.hid C
  clear C h0 h1 ht
  go_enter Tryd.func23, Tryd.ntmps23
  go_wp2_with (go_at_call 33; refine HC.out.mono ?_; rintro e w' ⟨rfl, k, os, hw⟩; have HW := Lib.hid hw; clear hw)
  go_ret
  exact ⟨by rw [← ba_append]; rfl, by rw [HW.out]; exact Lib.below_grow _ _ (Nat.le_refl _) k os⟩

theorem Tryd.gPow : Tryd.prog.globalNamed "internal/strconv.uint64pow10" = some 1 := by kernel_rfl

theorem says_small (i : Nat) (h : i < 100) (w0 : World) : Says w0 i (head ++ Lib.decDigits i) := fun W _ =>
  (errno_small i h W).mono fun e w' ⟨he, hw⟩ => ⟨he, by rw [← hw]; exact Below.refl _ _⟩
theorem says_any (n : Int) (h0 : -9223372036854775808 ≤ n) (h1 : n ≤ 9223372036854775807) (w0 : World) (hp : 1 < w0.heap.size) (ht : Lib.TabIs Tryd.prog w0 "internal/strconv.uint64pow10" .u64 Lib.pow10Tab) : Says w0 n (head ++ Lib.itoa n) := fun W hb =>
  errno_any n h0 h1 W (var?_below hb Tryd.gPow hp ht)

theorem dec2 : Lib.decDigits 2 = [50] := by unfold Lib.decDigits; simp

theorem strs_ab (w : World) : Strs (w.alloc (.cells #[.string ⟨#[97]⟩, .string ⟨#[98]⟩] 9)) (.slice (some ⟨w.heap.size, 0, none⟩) 2 2) [⟨#[97]⟩, ⟨#[98]⟩] := by
  refine .inr ⟨w.heap.size, 0, 2, rfl, by simp, by simp [maxLen], fun j hj => ?_⟩
  rw [World.cell?_alloc_at _ _ _ _ rfl]
  match j, hj with
  | 0, _ => rfl
  | 1, _ => rfl

theorem own_shape {w : World} {B : Nat} {v : Value} {n : Nat} {xs : List Value} (h : w.ownsRow B 9 1 v n xs) : ∃ a c, v = .slice a n c := by
  rcases h.2 with ⟨rfl, rfl⟩ | ⟨g, cap, cur, rfl, _⟩
  · exact ⟨_, _, rfl⟩
  · exact ⟨_, _, rfl⟩

set_option maxRecDepth 100000 in
set_option maxHeartbeats 2000000 in
theorem awake_any (w : World) (hg : Et w) :
    Calls Tryd.prog 5 #[] w fun e w' => e = .returned (.bool true) ∧ Below w.heap.size w w' := by
  have hb0 : Below w.heap.size w (w.alloc (.cells #[.string ⟨#[97]⟩, .string ⟨#[98]⟩] 9)) := (Below.refl _ _).alloc (Nat.le_refl _) _
  have M := make_any 2 (some ⟨w.heap.size, 0, none⟩) 2 2 [⟨#[97]⟩, ⟨#[98]⟩] (w.alloc (.cells #[.string ⟨#[97]⟩, .string ⟨#[98]⟩] 9)) rfl (by simp) (strs_ab w)
  have HM := Lib.hid M
  have HG := Lib.hid hg
  have HB := Lib.hid hb0
  clear M hg hb0
  go_enter Tryd.func5, Tryd.ntmps5
  go_wp2_with (go_at_call 7; refine HM.out.mono ?_)
  rintro en w1 ⟨e, rfl, hc, hb⟩
  have hb1 := HB.out.trans (hb.mono (by simp))
  obtain ⟨t, v, rfl⟩ := hc.iface
  have hg1 := HG.out.below hb1
  have HC := Lib.hid hc
  clear HM HB hb hc
  -- Code
  go_wp2_with fail
  refine (code_any 2 _ _ _ (by simp) HC.out hg1).mono ?_
  rintro en w2 ⟨rfl, hb2⟩
  have HC2 := Lib.hid ((HC.out.below hb2 (Nat.le_refl _)).up hb2.size)
  have hg2 := hg1.below hb2
  go_wp2_with fail
  refine (isF_any 2 2 _ _ _ (by simp) HC2.out hg2).mono ?_
  rintro en w3 ⟨rfl, hb3⟩
  have HC3 := Lib.hid ((HC2.out.below hb3 (Nat.le_refl _)).up hb3.size)
  have hg3 := hg2.below hb3
  rw [show isB 2 2 = true from rfl]
  go_wp2_with fail
  refine (isF_any 2 4 _ _ _ (by simp) HC3.out hg3).mono ?_
  rintro en w4 ⟨rfl, hb4⟩
  have HC4 := Lib.hid ((HC3.out.below hb4 (Nat.le_refl _)).up hb4.size)
  have hg4 := hg3.below hb4
  rw [show isB 2 4 = false from rfl]
  have T4 := text_any w4 2 (head ++ Lib.decDigits 2) (says_small 2 (by omega) w4) _ _ w4 (by simp) (by rw [dec2]; simp [places, head]) HC4.out (Below.refl _ _)
  rw [dec2, show (places [⟨#[97]⟩, ⟨#[98]⟩] ++ (head ++ [50])) = [97, 58, 32, 98, 58, 32, 98, 101, 122, 101, 108, 58, 32, 101, 114, 114, 111, 114, 32, 50] from rfl] at T4
  go_wp2_with fail
  refine T4.mono ?_
  rintro en w5 ⟨rfl, hb5⟩
  clear T4
  have HC5 := Lib.hid ((HC4.out.below hb5 (Nat.le_refl _)).up hb5.size)
  go_wp2_with fail
  refine (code_nil _).mono ?_
  rintro en w6 ⟨rfl, rfl⟩
  go_wp2_with fail
  refine (pathF_any 2 _ _ _ (by simp) HC5.out).mono ?_
  rintro en w6 ⟨v6, rfl, hown, hb6⟩
  obtain ⟨a6, c6, rfl⟩ := own_shape hown
  clear hown
  have hbb := hb1.trans ((hb2.trans ((hb3.trans ((hb4.trans ((hb5.trans (hb6.mono hb5.size)).mono hb4.size)).mono hb3.size)).mono hb2.size)).mono hb1.size)
  clear hb1 hb2 hb3 hb4 hb5 hb6 hg1 hg2 hg3 hg4
  go_wp2
  go_ret
  exact ⟨rfl, hbb⟩
end Go.Proofs.YtkcffgkdejjjjaaDoor
