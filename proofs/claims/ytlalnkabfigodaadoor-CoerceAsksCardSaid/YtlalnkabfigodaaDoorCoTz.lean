import Derived.Test.YtlalnkabfigodaaDoorCoOw
import Derived.Test.YtlalnkabfigodaaDoorCoG
import Derived.Shelf.Spec.TrailingZeros
namespace Go.Proofs.YtlalnkabfigodaaDoor
open Go.Lib (hid)
open Go.RowKit

/-- the table of the library's, as it is laid -/
def TzW (w : World) : Prop := TabAt 1 Lib.deBruijn64tab w
theorem TzW.lt {w : World} (h : TzW w) : 1 < w.heap.size := by
 have h0 := h 0 (by decide)
 by_cases hlt : 1 < w.heap.size
 ·
  exact hlt
 ·
  have hn : w.heap[1]? = none := Array.getElem?_eq_none (by omega)
  unfold World.cell? at h0
  simp only [hn] at h0
  cases h0
theorem TzW.keep {w w' : World} (h : TzW w) (hb : Below w.heap.size w w') : TzW w' := fun j hj => (hb.cell (p := ⟨1, j, none⟩) h.lt).trans (h j hj)
theorem TzW.stay {N : Nat → Prop} {w w' : World} (h : TzW w) (hs : Stay N w w') (hn : ¬ N 1) : TzW w' := fun j hj => (hs.cell (p := ⟨1, j, none⟩) h.lt hn).trans (h j hj)
theorem TzW.walk {M cw k : Nat} {w : World} (h : TzW w) (hw : WalkC M cw k w) : cw ≠ 1 := by
 rintro rfl
 have h0 := h 0 (by decide)
 rw [VarIs.c hw] at h0
 cases h0

set_option maxRecDepth 100000 in
set_option maxHeartbeats 8000000 in
theorem tz64_core7 (x k idx : Nat) (w : World) (hx0 : ((x : Int) == 0) = false)
  (key : IntKind.u64.wrap (bits BinOp.and IntKind.u64 (x : Int) (IntKind.u64.wrap (-(x : Int))) * 285870213051353865) / 288230376151711744 = (idx : Int))
  (hi : idx < 64) (hk : k < 64) (hcell : w.cell? ⟨1, idx, none⟩ = some (.int .u8 k)) :
  Calls Tryd.prog 79 #[.int .u64 x] w fun e w' => e = .returned (.int .i64 k) ∧ w' = w := by
 go_enter Tryd.func79, Tryd.ntmps79
 go_wp2_with (simp only [key])
 go_ret
 exact ⟨rfl, rfl⟩

set_option maxRecDepth 100000 in
set_option maxHeartbeats 8000000 in
theorem tz64_p (x : Nat) (hx : x < 18446744073709551616) (hx0 : x ≠ 0) (w : World) (hT : TzW w) : Calls Tryd.prog 79 #[.int .u64 x] w fun e w' => e = .returned (.int .i64 (Lib.ctz 64 x)) ∧ w' = w := by
 obtain ⟨hlow, hk⟩ := Lib.lowest_bit 64 x hx0 hx
 obtain ⟨hi, htab⟩ := Lib.deBruijn64_at _ hk
 have hcell := hT _ hi
 rw [htab] at hcell
 exact tz64_core7 x _ _ w (by simp; omega) (tz64_key x _ hx hx0 hlow) hi hk hcell

set_option maxRecDepth 100000 in
set_option maxHeartbeats 8000000 in
theorem tz_p (x : Nat) (hx : x < 18446744073709551616) (hx0 : x ≠ 0) (w : World) (hT : TzW w) : Calls Tryd.prog 56 #[.int .u64 x] w fun e w' => e = .returned (.int .i64 (Lib.ctz 64 x)) ∧ w' = w := by
 have HC := hid (tz64_p x hx hx0 w hT)
 have hw : IntKind.u64.wrap (x : Int) = (x : Int) := by rw [IntKind.wrap_u64]; omega
 clear hx0 hT
 go_enter Tryd.func56, Tryd.ntmps56
 go_wp2_with fail
 refine HC.out.mono ?_
 rintro e w2 ⟨rfl, rfl⟩
 go_wp2
 go_ret
 exact ⟨rfl, rfl⟩

/-- are pairs wrapped, by what can be taken out? -/
def wpr (p : Int) (n : Nat) : Bool := (p == 2 && n == 2) || (p == 3 && n == 1)
theorem wpr_shape {c : Co} (h : Shape c) : wpr c.h.pair c.pairs.length = decide (2 ≤ c.h.pair) := by
 obtain ⟨h1, _, h3, _⟩ := h.own
 unfold wantC at h3
 unfold wpr
 rcases (by omega : c.h.pair = 0 ∨ c.h.pair = 1 ∨ c.h.pair = 2 ∨ c.h.pair = 3) with e | e | e | e
 ·
  rw [e]; simp
 ·
  rw [e]; simp
 ·
  rw [e] at h3 ⊢; simp at h3; simp; omega
 ·
  rw [e] at h3 ⊢; simp at h3; simp; omega

set_option maxRecDepth 100000 in
set_option maxHeartbeats 8000000 in
theorem wraps_raw (c : Co) (v : Value) (w : World) (hv : CoV w v c) : Calls Tryd.prog 74 #[v] w fun e w' => e = .returned (.bool (wpr c.h.pair c.pairs.length)) ∧ Below w.heap.size w w' := by
 obtain ⟨pa, pc, fa, fc, rfl, hp, hf⟩ := hv.form
 obtain ⟨np, hnp⟩ : ∃ n, n = c.pairs.length := ⟨_, rfl⟩
 obtain ⟨nf, hnf⟩ : ∃ n, n = c.funs.length := ⟨_, rfl⟩
 rw [← hnp] at hp ⊢
 rw [← hnf] at hf ⊢
 have bp : (np : Int) ≤ 9223372036854775807 := by have := hp.len; rw [← hnp] at this; unfold maxLen at this; omega
 have bf : (nf : Int) ≤ 9223372036854775807 := by have := hf.len; rw [← hnf] at this; unfold maxLen at this; omega
 obtain ⟨W, hW⟩ : ∃ W, W = w.alloc (.cells #[.int .i64 c.h.f0, .int .i64 c.h.f1, .int .i64 c.h.f2, .int .i64 c.h.f3, .int .i64 c.h.f4, .int .i64 c.h.f5, .int .i64 c.h.pair, .int .i64 c.h.pl, .slice pa np pc, .int .i64 c.h.fn, .int .i64 c.h.fl, .slice fa nf fc] 25) := ⟨_, rfl⟩
 have HX := hid (show CBox W w.heap.size 25 ⟨c.h, .slice pa np pc, .slice fa nf fc⟩ by rw [hW]; exact CBox.made _ _ ⟨c.h, .slice pa np pc, .slice fa nf fc⟩)
 have HL := hid (show Below w.heap.size w W by rw [hW]; exact bAl _ _)
 have HP := hid (CoSN.below hp HL.out)
 have HF := hid (CoSN.below hf HL.out)
 have HPN := hid hnp
 have HFN := hid hnf
 have HW := hid hW
 clear hp hf hnp hnf hW hv
 obtain ⟨z, hz⟩ : ∃ z, z = wpr c.h.pair np := ⟨_, rfl⟩
 rw [← hz]
 unfold wpr at hz
 have dn : ∀ k : Nat, ((np : Int) == (k : Int)) = (np == k) := fun k => by
  by_cases h : np = k
  ·
   subst h; simp
  ·
   rw [beq_false_of_ne h]; exact beq_false_of_ne (by omega)
 have d1 := dn 1
 have d2 := dn 2
 obtain ⟨x1, t1⟩ : ∃ x, (c.h.pair == 2) = x := ⟨_, rfl⟩
 obtain ⟨x2, t2⟩ : ∃ x, (c.h.pair == 3) = x := ⟨_, rfl⟩
 obtain ⟨x3, t3⟩ : ∃ x, (np == 1) = x := ⟨_, rfl⟩
 obtain ⟨x4, t4⟩ : ∃ x, (np == 2) = x := ⟨_, rfl⟩
 rw [t3] at d1
 rw [t4] at d2
 rw [t1, t2, t3, t4] at hz
 have HZ := hid hz
 clear hz dn
 simp only [Int.cast_ofNat_Int] at d1 d2
 clear t3 t4
 cases x1 <;> cases x2 <;> cases x3 <;> cases x4
 all_goals
  go_enter Tryd.func74, Tryd.ntmps74
  go_wp2
  go_ret
  exact ⟨ret_bool (by rw [HZ.out]; rfl), by have := HL.out; rwa [HW.out] at this⟩
end Go.Proofs.YtlalnkabfigodaaDoor
