import Derived.Test.YtfboejdddgedcaaHpA
namespace Go.Proofs.Ytfboejdddgedcaa
open Go.RowKit

theorem ret_ib {k : IntKind} {a b : Int} {p q : Bool} (h : a = b) (h2 : p = q) : Ending.returned (.tuple #[.int k a, .bool p]) = .returned (.tuple #[.int k b, .bool q]) := by rw [h, h2]
/-- the kind of a word's object -/
def kindH (l : List Ob) (x : Nat) : Int × Bool := match atH l x with
  | some k => ((l.getD k ob0).kind, true)
  | none => (0, false)
def lenH (l : List Ob) (x : Nat) : Nat := match atH l x with
  | some k => (l.getD k ob0).f.length
  | none => 0
/-- is there such a field? -/
def hasH (l : List Ob) (x : Nat) (i : Int) : Bool := decide (0 ≤ i) && decide (i < lenH l x)
def fieldH (l : List Ob) (x : Nat) (i : Int) : Nat × Bool := match atH l x with
  | some k => if 0 ≤ i ∧ i < (l.getD k ob0).f.length then ((l.getD k ob0).f.getD i.toNat 0, true) else (0, false)
  | none => (0, false)

set_option maxHeartbeats 1600000 in
/-- how many words are used -/
theorem rused_any {w : World} {ok : Nat → Prop} {hb n : Nat} {v : Value} {l : List Ob} (h : HpAt w ok hb n v l) :
    Calls Try.prog 20 #[.pointer (some ⟨hb, 0, none⟩)] w fun e w' => e = .returned (.int .i64 (usedH l)) ∧ w = w' := by
  have hc1 := h.c1
  have hlu := Nat.le_trans (len_used l) h.room
  have hbig := h.big
  have HR := Lib.hid h.room
  have HO := Lib.hid h.obs
  obtain ⟨a, c, rfl⟩ := h.obs.val
  clear h
  obtain ⟨m, hm⟩ : ∃ m, m = l.length := ⟨_, rfl⟩
  have HM := Lib.hid hm
  rw [← hm] at hc1 HO hlu
  clear hm
  go_enter Try.func20, Try.ntmps20
  go_wp2
  go_loop [3, 4] (fun s i => ∃ k z : Nat, k ≤ m ∧ i = .int .i64 k ∧ s = .int .i64 z ∧ z ≤ n ∧ Hid (z = usedH (l.take k))) (fun _ i => m - (intOf i).toNat)
  case atStart => exact ⟨0, 0, Nat.zero_le _, rfl, rfl, Nat.zero_le _, Lib.hid rfl⟩
  case round =>
    obtain ⟨k, z, hk, rfl, rfl, hz, H⟩ := hrel
    by_cases hlt : k < m
    · have hkl : k < l.length := by rw [← HM.out]; exact hlt
      obtain ⟨b, off, c', u, hv, hb, _, _, e2, hW⟩ := HO.out.elem hkl
      rw [← HM.out] at hv
      cases hv
      have hf := field_used hkl
      have hle := used_take (l := l) (k + 1)
      obtain ⟨ua, uc, rfl⟩ := hW.val
      obtain ⟨y, hy⟩ : ∃ y, y = (l.getD k ob0).f.length := ⟨_, rfl⟩
      rw [← hy] at hf e2
      have hyn : z + y + 1 ≤ n := by have := HR.out; have := H.out; omega
      have HF := Lib.hid hf
      have HKL := Lib.hid hkl
      clear hy hW hf hle hkl
      go_wp2
      go_round
      case rel => exact ⟨k + 1, z + y + 1, by omega, by go_num, by go_num, hyn, Lib.hid (by rw [← HF.out, H.out]; omega)⟩
      case measure => simp [intOf]; omega
    · obtain rfl : k = m := by omega
      go_wp2
      go_ret
      refine ⟨ret_int ?_, rfl⟩
      rw [H.out, HM.out, List.take_length]

set_option maxHeartbeats 1600000 in
/-- the kind of a word's object -/
theorem rkind_any {w : World} {ok : Nat → Prop} {hb n : Nat} {v : Value} {l : List Ob} (h : HpAt w ok hb n v l) (x : Nat) :
    Calls Try.prog 23 #[.pointer (some ⟨hb, 0, none⟩), .int .u64 x] w fun e w' => e = .returned (.tuple #[.int .i64 (kindH l x).1, .bool (kindH l x).2]) ∧ w = w' := by
  have C := rat_any h x
  have hc1 := h.c1
  have hlu := Nat.le_trans (len_used l) h.room
  have hbig := h.big
  have HO := Lib.hid h.obs
  clear h
  unfold kindH
  unfold atI at C
  cases hat : atH l x with
  | none =>
    rw [hat] at C
    dsimp only at C ⊢
    have HC := Lib.hid C
    clear C hat HO
    go_enter Try.func23, Try.ntmps23
    go_wp2_with fail
    refine HC.out.mono ?_
    rintro e w' ⟨rfl, rfl⟩
    go_wp2
    go_ret2
    exact ⟨rfl, rfl⟩
  | some k =>
    rw [hat] at C
    dsimp only at C ⊢
    have hkl := (atH_some.1 hat).1
    have HC := Lib.hid C
    clear C hat
    obtain ⟨b, off, c', u, rfl, hb, e0, e1, e2, hW⟩ := HO.out.elem hkl
    clear HO hW e0 e2
    obtain ⟨y, hy⟩ : ∃ y, y = (l.getD k ob0).kind := ⟨_, rfl⟩
    rw [← hy] at e1 ⊢
    obtain ⟨m, hm⟩ : ∃ m, m = l.length := ⟨_, rfl⟩
    rw [← hm] at hc1 hlu hkl
    clear hy hm
    have h0 : (0 : Int) ≤ k := Int.natCast_nonneg _
    go_enter Try.func23, Try.ntmps23
    go_wp2_with fail
    refine HC.out.mono ?_
    rintro e w' ⟨rfl, rfl⟩
    go_wp2
    go_ret2
    exact ⟨rfl, rfl⟩

set_option maxHeartbeats 1600000 in
/-- how many fields a word's object has -/
theorem rlen_any {w : World} {ok : Nat → Prop} {hb n : Nat} {v : Value} {l : List Ob} (h : HpAt w ok hb n v l) (x : Nat) :
    Calls Try.prog 27 #[.pointer (some ⟨hb, 0, none⟩), .int .u64 x] w fun e w' => e = .returned (.int .i64 (lenH l x)) ∧ w = w' := by
  have C := rat_any h x
  have hc1 := h.c1
  have hlu := Nat.le_trans (len_used l) h.room
  have hbig := h.big
  have HO := Lib.hid h.obs
  clear h
  unfold lenH
  unfold atI at C
  cases hat : atH l x with
  | none =>
    rw [hat] at C
    dsimp only at C ⊢
    have HC := Lib.hid C
    clear C hat HO
    go_enter Try.func27, Try.ntmps27
    go_wp2_with fail
    refine HC.out.mono ?_
    rintro e w' ⟨rfl, rfl⟩
    go_wp2
    go_ret
    exact ⟨rfl, rfl⟩
  | some k =>
    rw [hat] at C
    dsimp only at C ⊢
    have hkl := (atH_some.1 hat).1
    have HC := Lib.hid C
    clear C hat
    obtain ⟨b, off, c', u, rfl, hb, e0, e1, e2, hW⟩ := HO.out.elem hkl
    obtain ⟨ua, uc, rfl⟩ := hW.val
    clear HO hW e0 e1
    obtain ⟨y, hy⟩ : ∃ y, y = (l.getD k ob0).f.length := ⟨_, rfl⟩
    rw [← hy] at e2 ⊢
    obtain ⟨m, hm⟩ : ∃ m, m = l.length := ⟨_, rfl⟩
    rw [← hm] at hc1 hlu hkl
    clear hy hm
    have h0 : (0 : Int) ≤ k := Int.natCast_nonneg _
    go_enter Try.func27, Try.ntmps27
    go_wp2_with fail
    refine HC.out.mono ?_
    rintro e w' ⟨rfl, rfl⟩
    go_wp2
    go_ret
    exact ⟨rfl, rfl⟩

set_option maxHeartbeats 1600000 in
/-- a field of a word's object -/
theorem rfield_any {w : World} {ok : Nat → Prop} {hb n : Nat} {v : Value} {l : List Ob} (h : HpAt w ok hb n v l) (x : Nat) (i : Int) :
    Calls Try.prog 25 #[.pointer (some ⟨hb, 0, none⟩), .int .u64 x, .int .i64 i] w fun e w' => e = .returned (.tuple #[.int .u64 (fieldH l x i).1, .bool (fieldH l x i).2]) ∧ w = w' := by
  have C := rat_any h x
  have hc1 := h.c1
  have hlu := Nat.le_trans (len_used l) h.room
  have hbig := h.big
  have HO := Lib.hid h.obs
  clear h
  unfold fieldH
  unfold atI at C
  cases hat : atH l x with
  | none =>
    rw [hat] at C
    dsimp only at C ⊢
    have HC := Lib.hid C
    clear C hat HO
    go_enter Try.func25, Try.ntmps25
    go_wp2_with fail
    refine HC.out.mono ?_
    rintro e w' ⟨rfl, rfl⟩
    go_wp2
    go_ret2
    exact ⟨rfl, rfl⟩
  | some k =>
    rw [hat] at C
    dsimp only at C ⊢
    have hkl := (atH_some.1 hat).1
    have HC := Lib.hid C
    clear C hat
    obtain ⟨b, off, c', u, rfl, hb, e0, e1, e2, hW⟩ := HO.out.elem hkl
    clear HO e0 e1
    have HW := Lib.hid hW
    obtain ⟨ua, uc, rfl⟩ := hW.val
    clear hW
    obtain ⟨f, hf⟩ : ∃ f, f = (l.getD k ob0).f := ⟨_, rfl⟩
    rw [← hf] at e2 HW ⊢
    obtain ⟨m, hm⟩ : ∃ m, m = l.length := ⟨_, rfl⟩
    rw [← hm] at hc1 hlu hkl
    clear hf hm
    have h0 : (0 : Int) ≤ k := Int.natCast_nonneg _
    by_cases hin : 0 ≤ i ∧ i < f.length
    · rw [if_pos hin]
      obtain ⟨j, rfl⟩ : ∃ j : Nat, i = j := ⟨i.toNat, by omega⟩
      have hj : j < f.length := by omega
      obtain ⟨fb, fo, fc, hv, _, e3, _⟩ := HW.out.elem hj
      cases hv
      obtain ⟨y, hy⟩ : ∃ y, y = f.length := ⟨_, rfl⟩
      obtain ⟨z, hz⟩ : ∃ z, z = f.getD j 0 := ⟨_, rfl⟩
      rw [← hy] at e2 hj
      rw [← hz] at e3
      have HZ := Lib.hid hz
      have j0 : (0 : Int) ≤ j := Int.natCast_nonneg _
      clear hy hz hin HW
      go_enter Try.func25, Try.ntmps25
      go_wp2_with fail
      refine HC.out.mono ?_
      rintro e w' ⟨rfl, rfl⟩
      go_wp2
      go_ret2
      refine ⟨?_, rfl⟩
      rw [HZ.out]; rfl
    · rw [if_neg hin]
      have hor : i < 0 ∨ (0 ≤ i ∧ (f.length : Int) ≤ i) := by omega
      obtain ⟨y, hy⟩ : ∃ y, y = f.length := ⟨_, rfl⟩
      rw [← hy] at e2 hor
      clear hy hin HW
      rcases hor with hneg | ⟨hpos, hge⟩
      · go_enter Try.func25, Try.ntmps25
        go_wp2_with fail
        refine HC.out.mono ?_
        rintro e w' ⟨rfl, rfl⟩
        go_wp2
        go_ret2
        exact ⟨rfl, rfl⟩
      · go_enter Try.func25, Try.ntmps25
        go_wp2_with fail
        refine HC.out.mono ?_
        rintro e w' ⟨rfl, rfl⟩
        go_wp2
        go_ret2
        exact ⟨rfl, rfl⟩
end Go.Proofs.Ytfboejdddgedcaa
