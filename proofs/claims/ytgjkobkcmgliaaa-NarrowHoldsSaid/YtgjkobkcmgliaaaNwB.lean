import Derived.Test.YtgjkobkcmgliaaaNwA
namespace Go.Proofs.Ytgjkobkcmgliaaa
open Go.RowKit

theorem lk_take (l : List (Int × Int)) (v : Int) (k : Nat) (h : k < l.length) : lk (l.take (k + 1)) v = if (l.getD k fa0).1 = v then lk (l.take k) v &&& lowN (l.getD k fa0).2 else lk (l.take k) v := by
  rw [List.take_succ_eq_append_getElem h, lk_snoc]
  simp [List.getD_eq_getElem?_getD, h]
/-- a fact of the row -/
theorem FaB.get {B : Nat} {w : World} {a : Option Addr} {n c : Nat} {l : List (Int × Int)} (h : FaB B w (.slice a n c) l) {k : Nat} (hk : k < l.length) :
    ∃ b off, a = some ⟨b, off, none⟩ ∧ B ≤ b ∧ b < w.heap.size ∧ w.cell? ⟨b, off + k * 2, none⟩ = some (.int .i64 (l.getD k fa0).1) ∧ w.cell? ⟨b, off + k * 2 + 1, none⟩ = some (.int .i64 (l.getD k fa0).2) := by
  obtain ⟨b, off, cap, e, h1, h2, _, _, h5⟩ := h.at hk
  cases e
  exact ⟨b, off, rfl, h1, h2, (h5 k hk).1, (h5 k hk).2⟩

set_option maxRecDepth 100000 in
set_option maxHeartbeats 4000000 in
theorem tags_go (B : Nat) (a : Option Addr) (c n : Nat) (nv : Bool) (l : List (Int × Int)) (v : Int) (w : World) (hm : n ≤ 100000) (hn : n = l.length) (hr : FaB B w (.slice a n c) l) :
    Calls Try.prog 47 #[.agg #[.bool nv, .slice a n c], .int .i64 v] w fun e w' => e = .returned (.int .i64 (lk l v)) ∧ Below w.heap.size w w' := by
  have HN := Lib.hid hn
  have HR := Lib.hid hr
  clear hn hr
  obtain ⟨W, hW⟩ : ∃ W, W = w.alloc (.cells #[.bool nv, .slice a n c] 36) := ⟨_, rfl⟩
  have hbx : Bx W w.heap.size 36 #[.bool nv, .slice a n c] := by rw [hW]; exact Bx.made _ _ _
  have hbl : Below w.heap.size w W := by rw [hW]; exact (Below.refl _ _).alloc (Nat.le_refl _) _
  have c1 : W.cell? ⟨w.heap.size, 1, none⟩ = some (.slice a n c) := hbx.c 1
  have HW := Lib.hid hW
  have HB := Lib.hid hbl
  clear hW hbx hbl
  go_enter Try.func47, Try.ntmps47
  go_wp2
  rw [← HW.out]
  go_loopw [5, 6] (fun s i wr => ∃ k : Nat, k ≤ n ∧ i = .int .i64 k ∧ s = .int .i64 (lk (l.take k) v) ∧ wr = W) (fun _ i _ => n - (intOf i).toNat)
  case atStart => exact ⟨0, Nat.zero_le _, rfl, rfl, rfl⟩
  case round =>
    obtain ⟨k, hk, rfl, rfl, rfl⟩ := hrel
    by_cases hlt : k < n
    · have hkl : k < l.length := by rw [← HN.out]; exact hlt
      obtain ⟨b, off, rfl, _, hb, d0, d1⟩ := HR.out.get hkl
      have e0 := (HB.out.cell (p := ⟨b, _, none⟩) hb).trans d0
      have e1 := (HB.out.cell (p := ⟨b, _, none⟩) hb).trans d1
      have hs := lk_take l v k hkl
      obtain ⟨x, hx⟩ : ∃ x, x = (l.getD k fa0).1 := ⟨_, rfl⟩
      obtain ⟨y, hy⟩ : ∃ y, y = (l.getD k fa0).2 := ⟨_, rfl⟩
      rw [← hx, ← hy] at hs
      rw [← hx] at e0
      rw [← hy] at e1
      have hand := i64_and (lk_lt (l.take k) v) (lowN_lt y)
      have HS := Lib.hid hs
      have h0 : (0 : Int) ≤ (k : Int) := Int.natCast_nonneg _
      have h1 : (k : Int) < (n : Int) := by omega
      obtain ⟨z, hz⟩ : ∃ z, z = lk (l.take k) v := ⟨_, rfl⟩
      rw [← hz] at hand HS ⊢
      clear d0 d1 hs hx hy hz
      by_cases hv : x = v
      · have hvb : (x == v) = true := by simp [hv]
        have HV := Lib.hid hv
        clear hv
        go_wp2_with (go_at_call 54; refine (low_any _ _).mono ?_; rintro e w' ⟨rfl, rfl⟩)
        go_roundw
        case rel =>
          refine ⟨k + 1, by omega, by go_num, ?_, trivial⟩
          rw [HS.out, if_pos HV.out]
        case measure => simp [intOf]; omega
      · have hvb : (x == v) = false := by simp [hv]
        have HV := Lib.hid hv
        clear hv
        go_wp2
        go_roundw
        case rel =>
          refine ⟨k + 1, by omega, by go_num, ?_, trivial⟩
          rw [HS.out, if_neg HV.out]
        case measure => simp [intOf]; omega
    · have hkn : k = n := by omega
      have e : lk (l.take k) v = lk l v := by rw [List.take_of_length_le (by rw [← HN.out]; omega)]
      rw [e]
      have HE := Lib.hid e
      clear e hkn
      go_wp2
      go_ret
      exact ⟨rfl, HB.out⟩

/-- has a variable facts? -/
def hasV (l : List (Int × Int)) (v : Int) : Bool := l.any fun f => f.1 == v
theorem hasV_take (l : List (Int × Int)) (v : Int) (k : Nat) (h : k < l.length) : hasV (l.take (k + 1)) v = (hasV (l.take k) v || ((l.getD k fa0).1 == v)) := by
  unfold hasV
  rw [List.take_succ_eq_append_getElem h, List.any_append]
  simp [List.getD_eq_getElem?_getD, h]
theorem hasV_of (l : List (Int × Int)) (v : Int) (k : Nat) (h : k < l.length) (hv : ((l.getD k fa0).1 == v) = true) : hasV l v = true := by
  unfold hasV
  rw [List.any_eq_true]
  exact ⟨l[k], List.getElem_mem h, by simpa [List.getD_eq_getElem?_getD, h] using hv⟩
theorem hasV_iff (l : List (Int × Int)) (v : Int) : hasV l v = true ↔ ∃ f ∈ l, f.1 = v := by simp [hasV]

set_option maxRecDepth 100000 in
set_option maxHeartbeats 4000000 in
theorem has_go (B : Nat) (a : Option Addr) (c n : Nat) (nv : Bool) (l : List (Int × Int)) (v : Int) (w : World) (hm : n ≤ 100000) (hn : n = l.length) (hr : FaB B w (.slice a n c) l) :
    Calls Try.prog 49 #[.agg #[.bool nv, .slice a n c], .int .i64 v] w fun e w' => e = .returned (.bool (hasV l v)) ∧ Below w.heap.size w w' := by
  have HN := Lib.hid hn
  have HR := Lib.hid hr
  clear hn hr
  obtain ⟨W, hW⟩ : ∃ W, W = w.alloc (.cells #[.bool nv, .slice a n c] 36) := ⟨_, rfl⟩
  have hbx : Bx W w.heap.size 36 #[.bool nv, .slice a n c] := by rw [hW]; exact Bx.made _ _ _
  have hbl : Below w.heap.size w W := by rw [hW]; exact (Below.refl _ _).alloc (Nat.le_refl _) _
  have c1 : W.cell? ⟨w.heap.size, 1, none⟩ = some (.slice a n c) := hbx.c 1
  have HW := Lib.hid hW
  have HB := Lib.hid hbl
  clear hW hbx hbl
  go_enter Try.func49, Try.ntmps49
  go_wp2
  rw [← HW.out]
  go_loopw [5] (fun i wr => ∃ k : Nat, k ≤ n ∧ i = .int .i64 k ∧ Hid (hasV (l.take k) v = false) ∧ wr = W) (fun i _ => n - (intOf i).toNat)
  case atStart => exact ⟨0, Nat.zero_le _, rfl, Lib.hid rfl, rfl⟩
  case round =>
    obtain ⟨k, hk, rfl, HF, rfl⟩ := hrel
    by_cases hlt : k < n
    · have hkl : k < l.length := by rw [← HN.out]; exact hlt
      obtain ⟨b, off, rfl, _, hb, d0, _⟩ := HR.out.get hkl
      have e0 := (HB.out.cell (p := ⟨b, _, none⟩) hb).trans d0
      have hs := hasV_take l v k hkl
      rw [HF.out, Bool.false_or] at hs
      obtain ⟨x, hx⟩ : ∃ x, x = (l.getD k fa0).1 := ⟨_, rfl⟩
      have hof := hasV_of l v k hkl
      rw [← hx] at hs hof e0
      have HS := Lib.hid hs
      have HOF := Lib.hid hof
      have h0 : (0 : Int) ≤ (k : Int) := Int.natCast_nonneg _
      have h1 : (k : Int) < (n : Int) := by omega
      clear d0 hs hx hof
      cases hvb : (x == v) with
      | true =>
        have HV := Lib.hid (HOF.out hvb)
        clear HOF HS
        go_wp2
        go_ret
        exact ⟨retb HV.out.symm, HB.out⟩
      | false =>
        have HV := Lib.hid hvb
        go_wp2
        go_roundw
        case rel => exact ⟨k + 1, by omega, by go_num, Lib.hid (HS.out.trans HV.out), trivial⟩
        case measure => simp [intOf]; omega
    · have hkn : k = n := by omega
      have e : hasV l v = false := by
        have := HF.out
        rwa [List.take_of_length_le (by rw [← HN.out]; omega)] at this
      have HE := Lib.hid e
      clear e hkn
      go_wp2
      go_ret
      exact ⟨retb HE.out.symm, HB.out⟩
end Go.Proofs.Ytgjkobkcmgliaaa
