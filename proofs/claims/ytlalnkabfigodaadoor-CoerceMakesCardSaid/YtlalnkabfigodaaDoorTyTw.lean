import Derived.Test.YtlalnkabfigodaaDoorTyN
import Derived.Deep.AppendLies
namespace Go.Proofs.YtlalnkabfigodaaDoor
open Go.RowKit

section
variable {w : World} {g : Nat} {a : Bool} {f f' p p' k k' : Int} {pv pv' fv fv' : Value}
theorem BoxAt.s1 (h : BoxAt w g a f p pv k fv) : BoxAt (w.setCell ⟨g, 1, none⟩ (.int .i64 f')) g a f' p pv k fv := by
 unfold BoxAt at *
 simp [World.setCell, Array.getElem?_modify, h]
theorem BoxAt.s2 (h : BoxAt w g a f p pv k fv) : BoxAt (w.setCell ⟨g, 2, none⟩ (.int .i64 p')) g a f p' pv k fv := by
 unfold BoxAt at *
 simp [World.setCell, Array.getElem?_modify, h]
theorem BoxAt.s3 (h : BoxAt w g a f p pv k fv) : BoxAt (w.setCell ⟨g, 3, none⟩ pv') g a f p pv' k fv := by
 unfold BoxAt at *
 simp [World.setCell, Array.getElem?_modify, h]
theorem BoxAt.s4 (h : BoxAt w g a f p pv k fv) : BoxAt (w.setCell ⟨g, 4, none⟩ (.int .i64 k')) g a f p pv k' fv := by
 unfold BoxAt at *
 simp [World.setCell, Array.getElem?_modify, h]
theorem BoxAt.s5 (h : BoxAt w g a f p pv k fv) : BoxAt (w.setCell ⟨g, 5, none⟩ fv') g a f p pv k fv' := by
 unfold BoxAt at *
 simp [World.setCell, Array.getElem?_modify, h]
theorem BoxAt.o {m i : Nat} {x : Value} (h : BoxAt w g a f p pv k fv) (hm : g ≠ m) : BoxAt (w.setCell ⟨m, i, none⟩ x) g a f p pv k fv := by
 unfold BoxAt at *
 simp [World.setCell, Array.getElem?_modify, h, hm.symm]
end
/-- the tags of both, of the first k -/
def fjTo (F G : Int) (k : Nat) : Int := ((List.range k).map fun j => ((2 ^ j : Nat) : Int)).foldl (fun s b => if bitOf F b || bitOf G b then s + b else s) 0
theorem fjTo_succ (F G : Int) (k : Nat) : fjTo F G (k + 1) = if bitOf F ((2 ^ k : Nat) : Int) || bitOf G ((2 ^ k : Nat) : Int) then fjTo F G k + ((2 ^ k : Nat) : Int) else fjTo F G k := by
 unfold fjTo
 rw [List.range_succ, List.map_append, List.foldl_append]
 rfl
theorem fjTo_six (F G : Int) : fjTo F G 6 = flatJoin F G := rfl
theorem fjTo_lt (F G : Int) : ∀ k, 0 ≤ fjTo F G k ∧ fjTo F G k < ((2 ^ k : Nat) : Int)
 | 0 => ⟨Int.le_refl _, by show (0 : Int) < 1; omega⟩
 | k + 1 => by
  have ih := fjTo_lt F G k
  rw [fjTo_succ, Nat.pow_succ]
  split <;> omega
theorem bit_nat (F p : Nat) : bitOf (F : Int) (p : Int) = decide (F / p % 2 = 1) := by
 unfold bitOf
 rw [show (((F : Int).tdiv (p : Int)).tmod 2) = ((F / p % 2 : Nat) : Int) from rfl]
 rw [Bool.eq_iff_iff]
 simp
 omega
/-- a slice of two types, of the call's own -/
theorem TyS.two {N : Nat → Prop} {w : World} {b : Nat} {cap : Nat} {r s : RawT} {x y : Ty} (hb : Lo N w b) (h1 : Cells6 w b 0 r) (h2 : Cells6 w b 6 s) (hr : RawOf w (Lo N w) r x) (hs : RawOf w (Lo N w) s y) (hc : 2 ≤ cap := by omega) : TyS w (Lo N w) (.slice (some ⟨b, 0, none⟩) 2 cap) [x, y] := by
 refine TyS.mk (l := [x, y]) (rs := [r, s]) hb (by unfold maxLen; simp) (fun j hj => ?_) ⟨rfl, fun j hj => ?_⟩ hc
 ·
  obtain rfl | rfl : j = 0 ∨ j = 1 := by simp at hj; omega
  ·
   exact h1
  ·
   exact h2
 ·
  obtain rfl | rfl : j = 0 ∨ j = 1 := by simp at hj; omega
  ·
   exact hr
  ·
   exact hs
theorem below_drewN {B : Nat} {a w : World} (h : Below B a w) (n : Nat) : Below B a (w.drewN n) := ⟨h.os, h.tape, h.output, h.size, h.block⟩
end Go.Proofs.YtlalnkabfigodaaDoor
