import Derived.Test.YtdjhjapfmbcmlaaDoorTyFd
import Derived.Test.YtdjhjapfmbcmlaaDoorTyDm
namespace Go.Proofs.YtdjhjapfmbcmlaaDoor
open Go.RowKit

/-- a row of types that is being built -/
def RowT (N : Nat → Prop) (B : Nat) (w : World) (v : Value) (l : List Ty) : Prop :=
  ∃ rs, w.ownsRow B 24 6 v l.length (rawsCells rs) ∧ RawsOf w (fun b => Lo N w b ∧ v.ownBlock ≠ some b) rs l
section
variable {N : Nat → Prop} {B : Nat} {w w' w1 : World} {v : Value} {l : List Ty}
theorem RowT.nil : RowT N B w (.slice none 0 0) [] := ⟨[], World.ownsRow_nil _ _ _ _, RawsOf.none _ _⟩
theorem RowT.val (h : RowT N B w v l) : ∃ a c, v = .slice a l.length c := by
  obtain ⟨rs, ⟨_, h⟩, _⟩ := h
  rcases h with ⟨rfl, h0⟩ | ⟨g, cap, cur, rfl, _⟩
  · exact ⟨none, 0, by rw [h0]⟩
  · exact ⟨_, _, rfl⟩
theorem RowT.below (h : RowT N B w v l) (hb : Below w.heap.size w w') : RowT N B w' v l := by
  obtain ⟨rs, ho, hr⟩ := h
  refine ⟨rs, ?_, hr.mono (fun b h => ⟨⟨Nat.lt_of_lt_of_le h.1.1 hb.size, h.1.2⟩, h.2⟩) fun b o h => hb.cell (p := ⟨_, _, none⟩) h.1.1⟩
  obtain ⟨h1, h2⟩ := ho
  refine ⟨h1, ?_⟩
  rcases h2 with h2 | ⟨g, cap, cur, hv, hg, hh, r⟩
  · exact .inl h2
  · exact .inr ⟨g, cap, cur, hv, hg, (hb.block g (Array.getElem?_eq_some_iff.1 hh).1).trans hh, r⟩
theorem RowT.done (h : RowT N B w v l) (hN : ∀ b, N b → b < B) (hl : l.length ≤ maxLen) : TyS w (Lo N w) v l := by
  obtain ⟨rs, ho, hr⟩ := h
  rw [← hr.1] at ho
  refine TyS.of_own ho hl (fun g hg => ?_) (hr.mono (fun b h => h.1) fun _ _ _ => rfl)
  have := ho.lt g hg
  exact ⟨this.2, fun e => by have := hN g e; omega⟩
theorem RowT.one {r : RawT} {d : Ty} (hr : RawOf w (Lo N w) r d) (hB : B ≤ w.heap.size) : RowT N B (w.alloc (.cells #[.bool r.all, .int .i64 r.flat, .int .i64 r.pair, r.pv, .int .i64 r.fn, r.fv] 24)) (.slice (some ⟨w.heap.size, 0, none⟩) 1 1) [d] := by
  refine ⟨[r], ⟨rfl, .inr ⟨w.heap.size, 1, _, rfl, hB, heap_alloc_new w _, Nat.le_refl _, by unfold maxLen; omega, rfl, rfl⟩⟩, rfl, fun j hj => ?_⟩
  obtain rfl : j = 0 := by simpa using hj
  have hb : Below w.heap.size w (w.alloc (.cells #[.bool r.all, .int .i64 r.flat, .int .i64 r.pair, r.pv, .int .i64 r.fn, r.fv] 24)) := (Below.refl _ _).alloc (Nat.le_refl _) _
  refine hr.mono (fun b h => ⟨⟨Nat.lt_of_lt_of_le h.1 hb.size, h.2⟩, ?_⟩) fun _ _ h => hb.cell (p := ⟨_, _, none⟩) h.1
  intro e
  simp only [Value.ownBlock, Option.some.injEq] at e
  have := h.1; omega
/-- one type more -/
theorem rowt_push {rs : List RawT} {r : RawT} {d : Ty} {o : Obj} {g cap : Nat} (hraw : RawsOf w (fun b => Lo N w b ∧ v.ownBlock ≠ some b) rs l) (hr : RawOf w (fun b => Lo N w b ∧ v.ownBlock ≠ some b) r d)
    (hgrow : (w.alloc o).grownBy w1 v.ownBlock) (hlies : v.ownBlock = some g ∨ g = w.heap.size + 1)
    (hown : w1.ownsRow B 24 6 (.slice (some ⟨g, 0, none⟩) (l.length + 1) cap) (l.length + 1) (rawsCells rs ++ rawCells r)) : RowT N B w1 (.slice (some ⟨g, 0, none⟩) (l.length + 1) cap) (l ++ [d]) := by
  have hsz := hgrow.size
  rw [alloc_hs] at hsz
  have hc : ∀ b o', Lo N w b ∧ v.ownBlock ≠ some b → w1.cell? ⟨b, o', none⟩ = w.cell? ⟨b, o', none⟩ := fun b o' h => by
    refine World.cell?_of_block ?_
    rw [hgrow.block b (by rw [alloc_hs]; have := h.1.1; omega) (fun e => h.2 e.symm)]
    exact Below.heap_alloc w o b h.1.1
  have hok : ∀ b, Lo N w b ∧ v.ownBlock ≠ some b → Lo N w1 b ∧ (Value.slice (some ⟨g, 0, none⟩) (l.length + 1) cap).ownBlock ≠ some b := fun b h => by
    refine ⟨⟨by have := h.1.1; omega, h.1.2⟩, fun e => ?_⟩
    simp only [Value.ownBlock, Option.some.injEq] at e
    rcases hlies with h' | h'
    · exact h.2 (by rw [h', e])
    · have := h.1.1; omega
  refine ⟨rs ++ [r], ?_, (hraw.mono hok hc).snoc (hr.mono hok hc)⟩
  rw [List.length_append, rawsCells_app]
  exact hown
end


theorem TyVN.raw {N : Nat → Prop} {w : World} {a : Bool} {f p k : Int} {pv fv : Value} {t : Ty} (h : TyVN N w (.agg #[.bool a, .int .i64 f, .int .i64 p, pv, .int .i64 k, fv]) t) : RawOf w (Lo N w) ⟨a, f, p, pv, k, fv⟩ t := by
  obtain ⟨⟨a', f', p', pv', k', fv'⟩, e, h⟩ := h
  simp only [rawV, Value.agg.injEq, Array.mk.injEq, List.cons.injEq, Value.bool.injEq, Value.int.injEq, true_and, and_true] at e
  obtain ⟨rfl, rfl, rfl, rfl, rfl, rfl⟩ := e
  exact h
mutual
/-- of how many a datum is -/
def szD : Dat → Nat
  | .mk _ _ l => 1 + szDs l
def szDs : List Dat → Nat
  | [] => 0
  | d :: r => szD d + szDs r
end
mutual
/-- the type of a datum, its unions not joined -/
def parF : Dat → Option Ty
  | .mk k x l => if k = 1 then wordT x.data.toList else if k = 5 then parR l else none
def parR : List Dat → Option Ty
  | [] => none
  | .mk k x _ :: r => if k = 1 ∧ 0 < r.length then (match parL r with | some l => formP x.data.toList l | none => none) else none
def parL : List Dat → Option (List Ty)
  | [] => some []
  | d :: r => match parF d, parL r with
    | some t, some l => some (t :: l)
    | _, _ => none
end
theorem szD_eq (d : Dat) : szD d = 1 + szDs d.list := by cases d; rfl
theorem szDs_get : ∀ (l : List Dat) (j : Nat), j < l.length → szD (l.getD j dat0) ≤ szDs l
  | [], j, h => by simp at h
  | d :: r, 0, _ => by rw [szDs]; simp
  | d :: r, j + 1, h => by
    have := szDs_get r j (by simpa using h)
    rw [szDs]; simp only [List.getD_cons_succ]; omega
theorem szDs_len : ∀ (l : List Dat), l.length ≤ szDs l
  | [] => Nat.le_refl _
  | d :: r => by
    have := szDs_len r
    have := szD_eq d
    rw [szDs, List.length_cons]; omega
theorem parL_get : ∀ (l : List Dat) (ts : List Ty), parL l = some ts → ts.length = l.length ∧ ∀ j, j < l.length → parF (l.getD j dat0) = some (ts.getD j ty0)
  | [], ts, h => by
    rw [parL] at h; cases h
    exact ⟨rfl, fun j hj => by simp at hj⟩
  | d :: r, ts, h => by
    rw [parL] at h
    cases h1 : parF d with
    | none => rw [h1] at h; cases h
    | some t =>
      cases h2 : parL r with
      | none => rw [h1, h2] at h; cases h
      | some l =>
        rw [h1, h2] at h
        cases h
        have ih := parL_get r l h2
        refine ⟨by rw [List.length_cons, List.length_cons, ih.1], fun j hj => ?_⟩
        cases j with
        | zero => exact h1
        | succ j => exact ih.2 j (by simpa using hj)
end Go.Proofs.YtdjhjapfmbcmlaaDoor
