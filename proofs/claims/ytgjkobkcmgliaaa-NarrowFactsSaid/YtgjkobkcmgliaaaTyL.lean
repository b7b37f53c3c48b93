import Derived.Test.YtgjkobkcmgliaaaTyEq
namespace Go.Proofs.Ytgjkobkcmgliaaa
open Go.RowKit

/-- a type, as a value -/
abbrev tyv (a : Bool) (f p : Int) (pa : Option Addr) (np pc : Nat) (g : Int) (fa : Option Addr) (nf fc : Nat) : Value := .agg #[.bool a, .int .i64 f, .int .i64 p, .slice pa np pc, .int .i64 g, .slice fa nf fc]
def hasPr (p : Int) (np : Nat) : Bool := (p == 1 && np == 2) || (p == 2 && np == 1)
def hasFr (g : Int) (nf : Nat) : Bool := (g == 1 && decide (0 < nf)) || (g == 2 && nf == 0)

set_option maxRecDepth 100000 in
set_option maxHeartbeats 4000000 in
theorem hasP_raw (a : Bool) (f p : Int) (pa : Option Addr) (np pc : Nat) (g : Int) (fa : Option Addr) (nf fc : Nat) (w : World) :
    Calls Try.prog 72 #[.agg #[.bool a, .int .i64 f, .int .i64 p, .slice pa np pc, .int .i64 g, .slice fa nf fc]] w fun e w' => e = .returned (.bool (hasPr p np)) ∧ Below w.heap.size w w' := by
  obtain ⟨z, hz⟩ : ∃ z, z = hasPr p np := ⟨_, rfl⟩
  rw [← hz]
  have dn : ∀ k : Nat, ((np : Int) == (k : Int)) = (np == k) := fun k => by
    by_cases h : np = k
    · subst h; simp
    · rw [beq_false_of_ne h]; exact beq_false_of_ne (by omega)
  have d1 := dn 1
  have d2 := dn 2
  unfold hasPr at hz
  have t1 : ∃ x, (p == 1) = x := ⟨_, rfl⟩
  have t2 : ∃ x, (p == 2) = x := ⟨_, rfl⟩
  have t3 : ∃ x, (np == 1) = x := ⟨_, rfl⟩
  have t4 : ∃ x, (np == 2) = x := ⟨_, rfl⟩
  obtain ⟨x1, t1⟩ := t1
  obtain ⟨x2, t2⟩ := t2
  obtain ⟨x3, t3⟩ := t3
  obtain ⟨x4, t4⟩ := t4
  rw [t3] at d1
  rw [t4] at d2
  rw [t1, t2, t3, t4] at hz
  have HZ := Lib.hid hz
  clear hz dn
  simp only [Int.cast_ofNat_Int] at d1 d2
  clear t3 t4
  cases x1 <;> cases x2 <;> cases x3 <;> cases x4
  all_goals
    go_enter Try.func72, Try.ntmps72
    go_wp2
    go_ret
    exact ⟨ret_bool (by rw [HZ.out]; rfl), (Below.refl _ _).alloc (Nat.le_refl _) _⟩

set_option maxRecDepth 100000 in
set_option maxHeartbeats 4000000 in
theorem hasF_raw (a : Bool) (f p : Int) (pa : Option Addr) (np pc : Nat) (g : Int) (fa : Option Addr) (nf fc : Nat) (w : World) :
    Calls Try.prog 73 #[.agg #[.bool a, .int .i64 f, .int .i64 p, .slice pa np pc, .int .i64 g, .slice fa nf fc]] w fun e w' => e = .returned (.bool (hasFr g nf)) ∧ Below w.heap.size w w' := by
  obtain ⟨z, hz⟩ : ∃ z, z = hasFr g nf := ⟨_, rfl⟩
  rw [← hz]
  unfold hasFr at hz
  have t1 : ∃ x, (g == 1) = x := ⟨_, rfl⟩
  have t2 : ∃ x, (g == 2) = x := ⟨_, rfl⟩
  obtain ⟨x1, t1⟩ := t1
  obtain ⟨x2, t2⟩ := t2
  rw [t1, t2] at hz
  by_cases h0 : nf = 0
  · subst h0
    have HZ := Lib.hid hz
    clear hz
    cases x1 <;> cases x2
    all_goals
      go_enter Try.func73, Try.ntmps73
      go_wp2
      go_ret
      exact ⟨ret_bool (by rw [HZ.out]; rfl), (Below.refl _ _).alloc (Nat.le_refl _) _⟩
  · have hp : (0 : Int) < nf := by omega
    have hq : ((nf : Int) == 0) = false := beq_false_of_ne (by omega)
    have hr : (nf == 0) = false := beq_false_of_ne h0
    have hs : decide (0 < nf) = true := decide_eq_true (by omega)
    rw [hr, hs] at hz
    have HZ := Lib.hid hz
    clear hz hr hs h0
    cases x1 <;> cases x2
    all_goals
      go_enter Try.func73, Try.ntmps73
      go_wp2
      go_ret
      exact ⟨ret_bool (by rw [HZ.out]; rfl), (Below.refl _ _).alloc (Nat.le_refl _) _⟩

set_option maxRecDepth 100000 in
set_option maxHeartbeats 4000000 in
theorem lists_raw (a : Bool) (f p : Int) (pa : Option Addr) (np pc : Nat) (g : Int) (fa : Option Addr) (nf fc : Nat) (a' : Bool) (f' p' : Int) (pa' : Option Addr) (np' pc' : Nat) (g' : Int) (fa' : Option Addr) (nf' fc' : Nat) (w : World) :
    Calls Try.prog 97 #[.agg #[.bool a, .int .i64 f, .int .i64 p, .slice pa np pc, .int .i64 g, .slice fa nf fc], .agg #[.bool a', .int .i64 f', .int .i64 p', .slice pa' np' pc', .int .i64 g', .slice fa' nf' fc']] w
      fun e w' => e = .returned (.bool (p == 2 && p' == 2)) ∧ Below w.heap.size w w' := by
  obtain ⟨z, hz⟩ : ∃ z, z = (p == 2 && p' == 2) := ⟨_, rfl⟩
  rw [← hz]
  have t1 : ∃ x, (p == 2) = x := ⟨_, rfl⟩
  have t2 : ∃ x, (p' == 2) = x := ⟨_, rfl⟩
  obtain ⟨x1, t1⟩ := t1
  obtain ⟨x2, t2⟩ := t2
  rw [t1, t2] at hz
  have HZ := Lib.hid hz
  clear hz
  cases x1 <;> cases x2
  all_goals
    go_enter Try.func97, Try.ntmps97
    go_wp2
    go_ret
    exact ⟨ret_bool (by rw [HZ.out]; rfl), ((Below.refl _ _).alloc (Nat.le_refl _) _).alloc (by simp) _⟩
end Go.Proofs.Ytgjkobkcmgliaaa
