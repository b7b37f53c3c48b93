import Derived.Test.YtfboejdddgedcaaHpD
namespace Go.Proofs.Ytfboejdddgedcaa
open Go.RowKit

/-- a field set: nothing where there is none -/
def setH (l : List Ob) (x : Nat) (i : Int) (y : Nat) : Option (List Ob) := match atH l x with
  | some k => if 0 ≤ i ∧ i < (l.getD k ob0).f.length then some (l.set k ⟨(l.getD k ob0).kind, (l.getD k ob0).f.set i.toNat y⟩) else none
  | none => none

set_option maxHeartbeats 1600000 in
/-- no such field: nothing is set -/
theorem rset_bad {w : World} {ok : Nat → Prop} {hb n : Nat} {v : Value} {l : List Ob} (h : HpAt w ok hb n v l) (x : Nat) (i : Int) (y : Nat) (hn : setH l x i y = none) :
    Calls Try.prog 15 #[.pointer (some ⟨hb, 0, none⟩), .int .u64 x, .int .i64 i, .int .u64 y] w fun e w' => e = .returned (.int .i64 1) ∧ w = w' := by
  have C := rat_any h x
  have hc1 := h.c1
  have hlu := Nat.le_trans (len_used l) h.room
  have hbig := h.big
  have HO := Lib.hid h.obs
  clear h
  unfold setH at hn
  unfold atI at C
  cases hat : atH l x with
  | none =>
    rw [hat] at C
    dsimp only at C
    have HC := Lib.hid C
    clear C hat HO hn
    go_enter Try.func15, Try.ntmps15
    go_wp2_with fail
    refine HC.out.mono ?_
    rintro e w' ⟨rfl, rfl⟩
    go_wp2
    go_ret
    exact ⟨rfl, rfl⟩
  | some k =>
    rw [hat] at C hn
    dsimp only at C hn
    have hkl := (atH_some.1 hat).1
    have HC := Lib.hid C
    clear C hat
    obtain ⟨b, off, c', u, rfl, hb, e0, e1, e2, hW⟩ := HO.out.elem hkl
    clear HO e0 e1
    obtain ⟨ua, uc, rfl⟩ := hW.val
    clear hW
    obtain ⟨f, hf⟩ : ∃ f, f = (l.getD k ob0).f := ⟨_, rfl⟩
    rw [← hf] at e2 hn
    obtain ⟨m, hm⟩ : ∃ m, m = l.length := ⟨_, rfl⟩
    rw [← hm] at hc1 hlu hkl
    have h0 : (0 : Int) ≤ k := Int.natCast_nonneg _
    have hor : i < 0 ∨ (0 ≤ i ∧ (f.length : Int) ≤ i) := by
      by_cases hin : 0 ≤ i ∧ i < f.length
      · rw [if_pos hin] at hn; cases hn
      · omega
    clear hn hf hm
    obtain ⟨y, hy⟩ : ∃ y, y = f.length := ⟨_, rfl⟩
    rw [← hy] at e2 hor
    clear hy
    rcases hor with hneg | ⟨hpos, hge⟩
    · go_enter Try.func15, Try.ntmps15
      go_wp2_with fail
      refine HC.out.mono ?_
      rintro e w' ⟨rfl, rfl⟩
      go_wp2
      go_ret
      exact ⟨rfl, rfl⟩
    · go_enter Try.func15, Try.ntmps15
      go_wp2_with fail
      refine HC.out.mono ?_
      rintro e w' ⟨rfl, rfl⟩
      go_wp2
      go_ret
      exact ⟨rfl, rfl⟩
end Go.Proofs.Ytfboejdddgedcaa
