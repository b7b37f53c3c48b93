import Derived.Test.YtlalnkabfigodaaDoorTyN
namespace Go.Proofs.YtlalnkabfigodaaDoor
open Go.RowKit

/-- all that was there stays as it was, but for the blocks of N -/
structure Stay (N : Nat → Prop) (w w' : World) : Prop where
 os : w'.os = w.os
 tape : w'.tape = w.tape
 output : w'.output = w.output
 size : w.heap.size ≤ w'.heap.size
 block : ∀ k, k < w.heap.size → ¬ N k → w'.heap[k]? = w.heap[k]?
section
variable {N : Nat → Prop} {a b c w w' w0 : World}
theorem Stay.refl : Stay N a a := ⟨rfl, rfl, rfl, Nat.le_refl _, fun _ _ _ => rfl⟩
theorem Stay.trans (h : Stay N a b) (k : Stay N b c) : Stay N a c :=
 ⟨k.os.trans h.os, k.tape.trans h.tape, k.output.trans h.output, Nat.le_trans h.size k.size, fun i hi hn => (k.block i (Nat.lt_of_lt_of_le hi h.size) hn).trans (h.block i hi hn)⟩
theorem Stay.of (h : Below w.heap.size w w') : Stay N w w' := ⟨h.os, h.tape, h.output, h.size, fun k hk _ => h.block k hk⟩
theorem Stay.then (h : Stay N a w) (k : Below w.heap.size w w') : Stay N a w' := h.trans (.of k)
theorem Stay.below {B : Nat} (h : Stay N w w') (hB : B ≤ w.heap.size) (hN : ∀ k, N k → B ≤ k) : Below B w w' :=
 ⟨h.os, h.tape, h.output, h.size, fun k hk => h.block k (by omega) fun hn => by have := hN k hn; omega⟩
theorem Stay.cell (h : Stay N w w') {p : Addr} (hp : p.block < w.heap.size) (hn : ¬ N p.block) : w'.cell? p = w.cell? p := World.cell?_of_block (w := w) (h.block p.block hp hn)
theorem Stay.none (h : Stay (fun _ => False) w w') : Below w.heap.size w w' := h.below (Nat.le_refl _) fun _ h => h.elim
theorem Stay.set (h : Stay N a w) {p : Addr} (hp : N p.block) (x : Value) : Stay N a (w.setCell p x) :=
 h.trans ⟨rfl, rfl, rfl, by simp [World.setCell], fun k _ hn => Below.heap_setCell _ _ _ _ (fun e => hn (e ▸ hp))⟩
theorem Lo.stay {e : Nat} (h : Stay N w w') (k : Lo N w e) : Lo N w' e := ⟨Nat.lt_of_lt_of_le k.1 h.size, k.2⟩
theorem TyVN.stay {v : Value} {t : Ty} (h : TyVN N w v t) (k : Stay N w w') : TyVN N w' v t := by
 obtain ⟨r, hv, h⟩ := h
 exact ⟨r, hv, h.mono (fun _ h => h.stay k) fun _ _ h => k.cell (p := ⟨_, _, Option.none⟩) h.1 h.2⟩
theorem TySN.stay {v : Value} {l : List Ty} (h : TyS w (Lo N w) v l) (k : Stay N w w') : TyS w' (Lo N w') v l :=
 h.mono (fun _ h => h.stay k) fun _ _ h => k.cell (p := ⟨_, _, Option.none⟩) h.1 h.2
theorem BoxAt.stay {g : Nat} {a : Bool} {f p k : Int} {pv fv : Value} (h : BoxAt w g a f p pv k fv) (hs : Stay N w w') (hn : ¬ N g) : BoxAt w' g a f p pv k fv := (hs.block g h.lt hn).trans h
end
/-- a variable of one cell, in a block of its own -/
def VarIs (w : World) (g : Nat) (T : TypeId) (v : Value) : Prop := w.heap[g]? = some (.cells #[v] T (0, 0))
section
variable {N : Nat → Prop} {w w' : World} {g : Nat} {T : TypeId} {v : Value}
theorem VarIs.c (h : VarIs w g T v) : w.cell? ⟨g, 0, none⟩ = some v := Lib.cell_of_heap h 0
theorem VarIs.fr (h : VarIs w g T v) (j : Nat) : w.frozen? ⟨g, j, none⟩ = false := Lib.frozen_of_heap h j
theorem VarIs.lt (h : VarIs w g T v) : g < w.heap.size := (Array.getElem?_eq_some_iff.1 h).1
theorem VarIs.keep (h : VarIs w g T v) (hb : Below w.heap.size w w') : VarIs w' g T v := (hb.block g h.lt).trans h
theorem VarIs.stay (h : VarIs w g T v) (hs : Stay N w w') (hn : ¬ N g) : VarIs w' g T v := (hs.block g h.lt hn).trans h
theorem VarIs.made (w : World) (T : TypeId) (v : Value) : VarIs (w.alloc (.cells #[v] T)) w.heap.size T v := heap_alloc_new _ _
theorem VarIs.set (h : VarIs w g T v) (x : Value) : VarIs (w.setCell ⟨g, 0, none⟩ x) g T x := by
 unfold VarIs at *
 simp [World.setCell, Array.getElem?_modify, h]
end
/-- what is spent by k calls -/
def preC (cost : Ty → Ty → Nat) (l m : List Ty) : Nat → Nat
 | 0 => 0
 | k + 1 => preC cost l m k + cost (l.getD k ty0) (m.getD k ty0)
theorem preC_mono {cost : Ty → Ty → Nat} {l m : List Ty} {i j : Nat} (h : i ≤ j) : preC cost l m i ≤ preC cost l m j := by
 induction j with
 | zero =>
  obtain rfl : i = 0 := by omega
  exact Nat.le_refl _
 | succ j ih =>
  by_cases e : i = j + 1
  ·
   rw [e]; exact Nat.le_refl _
  ·
   have := ih (by omega); rw [preC]; omega
/-- what is known of a function value that is called with two types -/
structure Fn2 (N : Nat → Prop) (St : Nat → World → Prop) (k : Nat) (lb : Array Value) (W0 : World) (R : Ty → Ty → Prop) (P : Ty → Ty → Bool) (cost : Ty → Ty → Nat) (lim : Nat) : Prop where
 keep : ∀ (n : Nat) (w w' : World), St n w → Below w.heap.size w w' → St n w'
 enter : ∀ (args : Array Value) (w : World), (callFunc k args).run Tryd.prog w = .ok (.enter k args) w
 call : ∀ (w : World) (vx vy : Value) (x y : Ty) (n : Nat), Stay N W0 w → St n w → n + cost x y ≤ lim → R x y → TyVN N w vx x → TyVN N w vy y →
  Calls Tryd.prog k (#[vx, vy] ++ lb) w fun e w' => e = .returned (.bool (P x y)) ∧ Stay N w w' ∧ ∃ n', n' ≤ n + cost x y ∧ St n' w'
/-- what is spent by k calls -/
def preD (cost : Ty → Nat) (l : List Ty) : Nat → Nat
 | 0 => 0
 | k + 1 => preD cost l k + cost (l.getD k ty0)
theorem preD_mono {cost : Ty → Nat} {l : List Ty} {i j : Nat} (h : i ≤ j) : preD cost l i ≤ preD cost l j := by
 induction j with
 | zero =>
  obtain rfl : i = 0 := by omega
  exact Nat.le_refl _
 | succ j ih =>
  by_cases e : i = j + 1
  ·
   rw [e]; exact Nat.le_refl _
  ·
   have := ih (by omega); rw [preD]; omega
/-- what is known of a function value that is called with one type -/
structure Fn1 (N : Nat → Prop) (St : Nat → World → Prop) (k : Nat) (lb : Array Value) (W0 : World) (R : Ty → Prop) (P : Ty → Bool) (cost : Ty → Nat) (lim : Nat) : Prop where
 keep : ∀ (n : Nat) (w w' : World), St n w → Below w.heap.size w w' → St n w'
 enter : ∀ (args : Array Value) (w : World), (callFunc k args).run Tryd.prog w = .ok (.enter k args) w
 call : ∀ (w : World) (vx : Value) (x : Ty) (n : Nat), Stay N W0 w → St n w → n + cost x ≤ lim → R x → TyVN N w vx x →
  Calls Tryd.prog k (#[vx] ++ lb) w fun e w' => e = .returned (.bool (P x)) ∧ Stay N w w' ∧ ∃ n', n' ≤ n + cost x ∧ St n' w'
end Go.Proofs.YtlalnkabfigodaaDoor
