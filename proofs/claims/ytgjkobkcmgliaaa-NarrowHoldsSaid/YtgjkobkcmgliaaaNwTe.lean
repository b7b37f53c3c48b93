import Derived.Test.YtgjkobkcmgliaaaNwA
namespace Go.Proofs.Ytgjkobkcmgliaaa
open Go.RowKit

/-- a test: what it asks, its variable, its tags, its truth, its parts -/
inductive Tst where
  | mk (op vr tags : Int) (yes : Bool) (of : List Tst)
def Tst.op : Tst → Int | .mk a _ _ _ _ => a
def Tst.vr : Tst → Int | .mk _ a _ _ _ => a
def Tst.tags : Tst → Int | .mk _ _ a _ _ => a
def Tst.yes : Tst → Bool | .mk _ _ _ a _ => a
def Tst.of : Tst → List Tst | .mk _ _ _ _ a => a
def te0 : Tst := .mk 0 0 0 false []
/-- tests in memory, one behind another -/
inductive TeS (w : World) : Value → List Tst → Prop
  | mkNil (a : Option Addr) (c : Nat) : TeS w (.slice a 0 c) []
  | mkSome (b off cap n : Nat) (vs : List Value) (l : List Tst) : b < w.heap.size → n = l.length → n ≤ maxLen ∧ n ≤ cap →
      (∀ j, j < l.length → w.cell? ⟨b, off + j * 5, none⟩ = some (.int .i64 (l.getD j te0).op) ∧ w.cell? ⟨b, off + j * 5 + 1, none⟩ = some (.int .i64 (l.getD j te0).vr) ∧ w.cell? ⟨b, off + j * 5 + 2, none⟩ = some (.int .i64 (l.getD j te0).tags) ∧
        w.cell? ⟨b, off + j * 5 + 3, none⟩ = some (.bool (l.getD j te0).yes) ∧ w.cell? ⟨b, off + j * 5 + 4, none⟩ = some (vs.getD j (.bool false))) →
      (∀ j, j < l.length → TeS w (vs.getD j (.bool false)) (l.getD j te0).of) → TeS w (.slice (some ⟨b, off, none⟩) n cap) l
def TeV (w : World) (v : Value) (t : Tst) : Prop := ∃ fv, v = .agg #[.int .i64 t.op, .int .i64 t.vr, .int .i64 t.tags, .bool t.yes, fv] ∧ TeS w fv t.of
section
variable {w w' : World} {v : Value} {l : List Tst} {t : Tst}
theorem TeS.keep (h : TeS w v l) (hb : Below w.heap.size w w') : TeS w' v l := by
  induction h with
  | mkNil a c => exact .mkNil a c
  | mkSome b off cap n vs l h1 h2 h3 h4 _ ih =>
    refine .mkSome b off cap n vs l (Nat.lt_of_lt_of_le h1 hb.size) h2 h3 (fun j hj => ?_) ih
    obtain ⟨c0, c1, c2, c3, c4⟩ := h4 j hj
    exact ⟨(hb.cell (p := ⟨b, _, none⟩) h1).trans c0, (hb.cell (p := ⟨b, _, none⟩) h1).trans c1, (hb.cell (p := ⟨b, _, none⟩) h1).trans c2, (hb.cell (p := ⟨b, _, none⟩) h1).trans c3, (hb.cell (p := ⟨b, _, none⟩) h1).trans c4⟩
theorem TeV.below (h : TeV w v t) (hb : Below w.heap.size w w') : TeV w' v t := by
  obtain ⟨fv, e, h⟩ := h; exact ⟨fv, e, h.keep hb⟩
theorem TeS.val (h : TeS w v l) : ∃ a c, v = .slice a l.length c := by
  cases h with
  | mkNil a c => exact ⟨a, c, rfl⟩
  | mkSome b off cap n vs l h1 h2 => subst h2; exact ⟨_, _, rfl⟩
theorem TeS.len (h : TeS w v l) : l.length ≤ maxLen := by
  cases h with
  | mkNil a c => exact Nat.zero_le _
  | mkSome b off cap n vs l h1 h2 h3 => rw [← h2]; exact h3.1
theorem TeS.elem {pa : Option Addr} {n c : Nat} (h : TeS w (.slice pa n c) l) {j : Nat} (hj : j < l.length) :
    ∃ b off a c', pa = some ⟨b, off, none⟩ ∧ b < w.heap.size ∧ w.cell? ⟨b, off + j * 5, none⟩ = some (.int .i64 (l.getD j te0).op) ∧ w.cell? ⟨b, off + j * 5 + 1, none⟩ = some (.int .i64 (l.getD j te0).vr) ∧ w.cell? ⟨b, off + j * 5 + 2, none⟩ = some (.int .i64 (l.getD j te0).tags) ∧
      w.cell? ⟨b, off + j * 5 + 3, none⟩ = some (.bool (l.getD j te0).yes) ∧ w.cell? ⟨b, off + j * 5 + 4, none⟩ = some (.slice a (l.getD j te0).of.length c') ∧ TeS w (.slice a (l.getD j te0).of.length c') (l.getD j te0).of := by
  cases h with
  | mkNil a c => simp at hj
  | mkSome b off cap n vs l h1 h2 h3 h4 h5 =>
    obtain ⟨c0, c1, c2, c3, c4⟩ := h4 j hj
    have h6 := h5 j hj
    obtain ⟨a, c', e⟩ := h6.val
    rw [e] at c4 h6
    exact ⟨b, off, a, c', rfl, h1, c0, c1, c2, c3, c4, h6⟩
theorem TeV.form (h : TeV w v t) : ∃ a c, v = .agg #[.int .i64 t.op, .int .i64 t.vr, .int .i64 t.tags, .bool t.yes, .slice a t.of.length c] ∧ TeS w (.slice a t.of.length c) t.of := by
  obtain ⟨fv, e, h⟩ := h
  obtain ⟨a, c, e2⟩ := h.val
  rw [e2] at e h
  exact ⟨a, c, e, h⟩
end
/-- may a test be gone through? of so many steps -/
def litT : Nat → Tst → Bool
  | 0, _ => false
  | n + 1, t => decide (t.of.length ≤ 5) && t.of.all (litT n)
/-- a test's facts, of so many steps -/
def prpT : Nat → Tst → Prp
  | 0, _ => noneP
  | n + 1, t => if t.op = 0 then isP t.vr t.tags else if t.op = 1 then truthP t.vr else if t.op = 2 then constP t.yes else
    if t.op = 3 ∧ 0 < t.of.length then notP (prpT n (t.of.getD 0 te0)) else
    if t.op = 4 ∧ 2 < t.of.length then ifP (prpT n (t.of.getD 0 te0)) (prpT n (t.of.getD 1 te0)) (prpT n (t.of.getD 2 te0)) else noneP
end Go.Proofs.Ytgjkobkcmgliaaa
