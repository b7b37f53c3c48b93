import Derived.Test.YtgjkobkcmgliaaaNwQ
import Derived.Deep.Slices
import Derived.WalkKit
import Derived.WalkSpells
import Derived.WalkLawsBesides
import Derived.BigQuiet
import Derived.Deep.QuietTactic
import Derived.Outline
import Derived.Lib.Builder
import Derived.Deep.RegionHeld3
import Derived.Deep.AppendLies
import Derived.Laws.Pointers
import Derived.OwnWalk
import Derived.StillTactics
import Derived.Lib.SliceRun
namespace Go.Proofs.Ytgjkobkcmgliaaa
open Go.RowKit

theorem retb {a b : Bool} (h : a = b) : Ending.returned (.bool a) = .returned (.bool b) := by rw [h]
theorem reti {k : IntKind} {a b : Int} (h : a = b) : Ending.returned (.int k a) = .returned (.int k b) := by rw [h]
def fa0 : Int × Int := (0, 0)
/-- a fact's cells -/
def faCells (f : Int × Int) : List Value := [.int .i64 f.1, .int .i64 f.2]
def fasCells (l : List (Int × Int)) : List Value := l.flatMap faCells
theorem fasCells_app (l m : List (Int × Int)) : fasCells (l ++ m) = fasCells l ++ fasCells m := by simp [fasCells]
theorem fasCells_snoc (l : List (Int × Int)) (f : Int × Int) : fasCells (l ++ [f]) = fasCells l ++ faCells f := by simp [fasCells]
theorem fasCells_len (l : List (Int × Int)) : (fasCells l).length = l.length * 2 := by
  induction l with
  | nil => rfl
  | cons f r ih =>
    have e : fasCells (f :: r) = [.int .i64 f.1, .int .i64 f.2] ++ fasCells r := rfl
    rw [e, List.length_append, ih, List.length_cons]; simp only [List.length_cons, List.length_nil]; omega
theorem fasCells_get (l : List (Int × Int)) (j : Nat) (hj : j < l.length) : (fasCells l)[j * 2]? = some (.int .i64 (l.getD j fa0).1) ∧ (fasCells l)[j * 2 + 1]? = some (.int .i64 (l.getD j fa0).2) := by
  induction l generalizing j with
  | nil => simp at hj
  | cons f r ih =>
    cases j with
    | zero => simp [fasCells, faCells]
    | succ j =>
      have := ih j (by simpa using hj)
      have e : fasCells (f :: r) = [.int .i64 f.1, .int .i64 f.2] ++ fasCells r := rfl
      rw [e, show (j + 1) * 2 = j * 2 + 2 by omega]
      refine ⟨?_, ?_⟩
      · rw [List.getElem?_append_right (by simp)]; simpa using this.1
      · rw [List.getElem?_append_right (by simp)]; simpa using this.2
theorem fasCells_one (l : List (Int × Int)) : ∀ u ∈ fasCells l, u.oneCell' = true := by
  intro u hu
  obtain ⟨f, _, hu⟩ := List.mem_flatMap.1 hu
  simp only [faCells, List.mem_cons, List.not_mem_nil, or_false] at hu
  rcases hu with rfl | rfl <;> rfl
/-- facts in memory, one behind another -/
def RowF (w : World) (b off : Nat) (l : List (Int × Int)) : Prop :=
  ∀ j, j < l.length → w.cell? ⟨b, off + j * 2, none⟩ = some (.int .i64 (l.getD j fa0).1) ∧ w.cell? ⟨b, off + j * 2 + 1, none⟩ = some (.int .i64 (l.getD j fa0).2)
theorem RowF.cell {w : World} {b off : Nat} {l : List (Int × Int)} (h : RowF w b off l) (j : Nat) (u : Value) (hj : (fasCells l)[j]? = some u) : w.cell? ((⟨b, off, none⟩ : Addr).add j) = some u := by
  have hlt := (List.getElem?_eq_some_iff.1 hj).1
  rw [fasCells_len] at hlt
  have hq : j / 2 < l.length := by omega
  have hg := fasCells_get l (j / 2) hq
  obtain ⟨h0, h1⟩ := h (j / 2) hq
  rw [Addr.add_lit]
  rcases (by omega : j = j / 2 * 2 ∨ j = j / 2 * 2 + 1) with e | e
  · rw [← e] at hg h0
    have : off + j / 2 * 2 = off + j := by omega
    rw [hj] at hg
    rw [Option.some.inj hg.1]
    rw [show off + j = off + j / 2 * 2 by omega]
    rw [show off + j / 2 * 2 = off + j by omega]
    exact h0
  · rw [← e] at hg
    rw [hj] at hg
    rw [Option.some.inj hg.2, show off + j = off + j / 2 * 2 + 1 by omega]
    exact h1
theorem RowF.mono {w w' : World} {b off : Nat} {l : List (Int × Int)} (h : RowF w b off l) (hc : ∀ o, w'.cell? ⟨b, o, none⟩ = w.cell? ⟨b, o, none⟩) : RowF w' b off l :=
  fun j hj => ⟨(hc _).trans (h j hj).1, (hc _).trans (h j hj).2⟩
/-- a slice of facts that lies in blocks from B on -/
def FaB (B : Nat) (w : World) (v : Value) (l : List (Int × Int)) : Prop :=
  (l = [] ∧ ∃ a c, v = .slice a 0 c) ∨ ∃ b off cap, v = .slice (some ⟨b, off, none⟩) l.length cap ∧ B ≤ b ∧ b < w.heap.size ∧ l.length ≤ maxLen ∧ l.length ≤ cap ∧ RowF w b off l
section
variable {B B' : Nat} {w w' : World} {v : Value} {l : List (Int × Int)}
theorem FaB.nil (B : Nat) (w : World) (a : Option Addr) (c : Nat) : FaB B w (.slice a 0 c) [] := .inl ⟨rfl, _, _, rfl⟩
theorem FaB.mono (h : FaB B w v l) (hB : B' ≤ B) : FaB B' w v l := by
  rcases h with h | ⟨b, off, cap, h1, h2, h3⟩
  · exact .inl h
  · exact .inr ⟨b, off, cap, h1, Nat.le_trans hB h2, h3⟩
theorem FaB.below (h : FaB B w v l) (hb : Below w.heap.size w w') : FaB B w' v l := by
  rcases h with h | ⟨b, off, cap, h1, h2, h3, h4, h5, h6⟩
  · exact .inl h
  · exact .inr ⟨b, off, cap, h1, h2, Nat.lt_of_lt_of_le h3 hb.size, h4, h5, h6.mono fun o => hb.cell (p := ⟨b, o, none⟩) h3⟩
theorem FaB.val (h : FaB B w v l) : ∃ a c, v = .slice a l.length c := by
  rcases h with ⟨rfl, a, c, rfl⟩ | ⟨b, off, cap, rfl, _⟩
  · exact ⟨a, c, rfl⟩
  · exact ⟨_, _, rfl⟩
theorem FaB.len (h : FaB B w v l) : l.length ≤ maxLen := by
  rcases h with ⟨rfl, _⟩ | ⟨b, off, cap, rfl, _, _, h, _⟩
  · unfold maxLen; simp
  · exact h
/-- a store in another block -/
theorem FaB.set (h : FaB B w v l) {p : Addr} (hp : p.block < B) (x : Value) : FaB B (w.setCell p x) v l := by
  rcases h with h | ⟨b, off, cap, h1, h2, h3, h4, h5, h6⟩
  · exact .inl h
  · refine .inr ⟨b, off, cap, h1, h2, by simpa [World.setCell] using h3, h4, h5, h6.mono fun o => ?_⟩
    simp only [World.cell?, Below.heap_setCell w p x b (by omega)]
theorem FaB.at (h : FaB B w v l) {j : Nat} (hj : j < l.length) : ∃ b off cap, v = .slice (some ⟨b, off, none⟩) l.length cap ∧ B ≤ b ∧ b < w.heap.size ∧ l.length ≤ maxLen ∧ l.length ≤ cap ∧ RowF w b off l := by
  rcases h with ⟨rfl, _⟩ | h
  · simp at hj
  · exact h
theorem FaB.of_own {e : Nat} (h : w.ownsRow B e 2 v l.length (fasCells l)) (hm : l.length ≤ maxLen) : FaB B w v l := by
  have hc := @World.ownsRow.cells _ _ _ _ _ _ _ h
  have hl := h.lt
  rcases h.2 with ⟨rfl, h0⟩ | ⟨g, cap, cur, rfl, hB, hg, hn, hr⟩
  · exact .inl ⟨List.length_eq_zero_iff.1 h0, _, _, rfl⟩
  · refine .inr ⟨g, 0, cap, rfl, (hl g rfl).1, (hl g rfl).2, hm, hn, fun j hj => ?_⟩
    obtain ⟨h1, h2⟩ := fasCells_get l j hj
    have e : ∀ i, (⟨g, 0, none⟩ : Addr).add i = ⟨g, 0 + i, none⟩ := fun i => by unfold Addr.add; split <;> simp_all
    refine ⟨?_, ?_⟩
    · have := hc (g := g) rfl _ _ h1; rw [e] at this; exact this
    · have := hc (g := g) rfl _ _ h2; rw [e] at this; exact this
/-- the cells of such a slice -/
theorem FaB.cells {a : Option Addr} {n c : Nat} (h : FaB B w (.slice a n c) l) : ∀ ad, a = some ad → ∀ j u, (fasCells l)[j]? = some u → ad.block < w.heap.size ∧ w.cell? (ad.add j) = some u := by
  intro ad ha j u hj
  rcases h with ⟨rfl, _⟩ | ⟨b, off, cap, e, _, h3, _, _, h6⟩
  · simp [fasCells] at hj
  · cases e; cases ha
    exact ⟨h3, h6.cell j u hj⟩
end
/-- facts, as a value of two cells -/
def FcB (B : Nat) (w : World) (v : Value) (F : Fcs) : Prop := ∃ a c, v = .agg #[.bool F.never, .slice a F.l.length c] ∧ FaB B w (.slice a F.l.length c) F.l
def PrB (B : Nat) (w : World) (v : Value) (p : Prp) : Prop :=
  ∃ a c a' c', v = .agg #[.bool p.th.never, .slice a p.th.l.length c, .bool p.el.never, .slice a' p.el.l.length c'] ∧ FaB B w (.slice a p.th.l.length c) p.th.l ∧ FaB B w (.slice a' p.el.l.length c') p.el.l
theorem FcB.below {B : Nat} {w w' : World} {v : Value} {F : Fcs} (h : FcB B w v F) (hb : Below w.heap.size w w') : FcB B w' v F := by
  obtain ⟨a, c, e, h⟩ := h; exact ⟨a, c, e, h.below hb⟩
theorem FcB.mono {B B' : Nat} {w : World} {v : Value} {F : Fcs} (h : FcB B w v F) (hB : B' ≤ B) : FcB B' w v F := by
  obtain ⟨a, c, e, h⟩ := h; exact ⟨a, c, e, h.mono hB⟩
theorem PrB.below {B : Nat} {w w' : World} {v : Value} {F : Prp} (h : PrB B w v F) (hb : Below w.heap.size w w') : PrB B w' v F := by
  obtain ⟨a, c, a', c', e, h1, h2⟩ := h; exact ⟨a, c, a', c', e, h1.below hb, h2.below hb⟩
theorem PrB.mono {B B' : Nat} {w : World} {v : Value} {F : Prp} (h : PrB B w v F) (hB : B' ≤ B) : PrB B' w v F := by
  obtain ⟨a, c, a', c', e, h1, h2⟩ := h; exact ⟨a, c, a', c', e, h1.mono hB, h2.mono hB⟩
/-- a block of its own that holds these cells -/
def Bx (w : World) (g : Nat) (T : TypeId) (cs : Array Value) : Prop := w.heap[g]? = some (.cells cs T (0, 0))
section
variable {w w' : World} {g : Nat} {T : TypeId} {cs : Array Value}
theorem Bx.c (h : Bx w g T cs) (i : Nat) : w.cell? ⟨g, i, none⟩ = cs[i]? := Lib.cell_of_heap h i
theorem Bx.fr (h : Bx w g T cs) (j : Nat) : w.frozen? ⟨g, j, none⟩ = false := Lib.frozen_of_heap h j
theorem Bx.lt (h : Bx w g T cs) : g < w.heap.size := (Array.getElem?_eq_some_iff.1 h).1
theorem Bx.keep (h : Bx w g T cs) (hb : Below w.heap.size w w') : Bx w' g T cs := (hb.block g h.lt).trans h
theorem Bx.under {B : Nat} (h : Bx w g T cs) (hb : Below B w w') (hg : g < B) : Bx w' g T cs := (hb.block g hg).trans h
theorem Bx.made (w : World) (T : TypeId) (cs : Array Value) : Bx (w.alloc (.cells cs T)) w.heap.size T cs := heap_alloc_new _ _
theorem Bx.set (h : Bx w g T cs) (i : Nat) (x : Value) : Bx (w.setCell ⟨g, i, none⟩ x) g T (cs.setIfInBounds i x) := by
  unfold Bx at *
  simp [World.setCell, Array.getElem?_modify, h]
theorem Bx.other {m i : Nat} {x : Value} (h : Bx w g T cs) (hm : g ≠ m) : Bx (w.setCell ⟨m, i, none⟩ x) g T cs := by
  unfold Bx at *
  simp [World.setCell, Array.getElem?_modify, h, hm.symm]
end
theorem Bx.c0 {w : World} {g : Nat} {T : TypeId} {x y : Value} (h : Bx w g T #[x, y]) : w.cell? ⟨g, 0, none⟩ = some x := h.c 0
theorem Bx.c1 {w : World} {g : Nat} {T : TypeId} {x y : Value} (h : Bx w g T #[x, y]) : w.cell? ⟨g, 1, none⟩ = some y := h.c 1
theorem Bx.d0 {w : World} {g : Nat} {T : TypeId} {x y z u : Value} (h : Bx w g T #[x, y, z, u]) : w.cell? ⟨g, 0, none⟩ = some x := h.c 0
theorem Bx.d1 {w : World} {g : Nat} {T : TypeId} {x y z u : Value} (h : Bx w g T #[x, y, z, u]) : w.cell? ⟨g, 1, none⟩ = some y := h.c 1
theorem Bx.d2 {w : World} {g : Nat} {T : TypeId} {x y z u : Value} (h : Bx w g T #[x, y, z, u]) : w.cell? ⟨g, 2, none⟩ = some z := h.c 2
theorem Bx.d3 {w : World} {g : Nat} {T : TypeId} {x y z u : Value} (h : Bx w g T #[x, y, z, u]) : w.cell? ⟨g, 3, none⟩ = some u := h.c 3
theorem size_alloc (w : World) (o : Obj) : (w.alloc o).heap.size = w.heap.size + 1 := by simp
theorem add_lit0 (g i : Nat) : (⟨g, 0, none⟩ : Addr).add i = ⟨g, i, none⟩ := by unfold Addr.add; split <;> simp_all
theorem Try.infoFa : (Try.prog.info? 61).map (fun i => (i.zero, i.size, i.bytes)) = some (some (.agg #[.int .i64 0, .int .i64 0]), 2, 16) := by kernel_rfl
theorem Try.infoFaR : (Try.prog.info? 76).map (fun i => (i.zero, i.size, i.bytes)) = some (some (.agg #[.int .i64 0, .int .i64 0]), 2, 16) := by kernel_rfl

theorem low_any (n : Int) (w : World) : Calls Try.prog 54 #[.int .i64 n] w fun e w' => e = .returned (.int .i64 (lowN n)) ∧ w' = w := by
  have hb := i64_and255 n
  go_enter Try.func54, Try.ntmps54
  go_wp2
  go_ret
  exact ⟨rfl, rfl⟩
end Go.Proofs.Ytgjkobkcmgliaaa
