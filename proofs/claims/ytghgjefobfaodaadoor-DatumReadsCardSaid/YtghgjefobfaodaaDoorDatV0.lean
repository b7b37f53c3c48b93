import Derived.Test.YtghgjefobfaodaaDoorDatU
import Derived.Test.YtghgjefobfaodaaDoorLexGC
namespace Go.Proofs.YtghgjefobfaodaaDoor
open Go.RowKit

/-- what Read answers, as it lies in memory -/
def RVal (w : World) (out : RRes) (e : Ending) (w' : World) : Prop :=
  (match out with
    | .ok l => ∃ sv, e = .returned (.tuple #[sv, .int .i64 0, .int .i64 0]) ∧ SliceOf w' (fun b => w.heap.size ≤ b ∧ b < w'.heap.size) sv l
    | .err a c => e = .returned (.tuple #[.slice none 0 0, .int .i64 a, .int .i64 c])) ∧ Below w.heap.size w w'
def PRel (N : Int) (w : World) (res : RRes) (L : Nat) (g : Nat) (wr : World) : Prop :=
  ∃ (rest : List Tok) (acc : List Dat) (rs : List Raw) (dv : Value), res = allF N g rest acc ∧ rest.length < g ∧ acc.length + rest.length ≤ L ∧ (∀ u ∈ rest, smTok u) ∧
    wr.heap[w.heap.size]? = some (.cells #[dv] 23 (0, 0)) ∧ wr.heap[w.heap.size + 1]? = some (.cells #[.int .i64 0] 3 (0, 0)) ∧ wr.heap[w.heap.size + 2]? = some (.cells #[.int .i64 0] 24 (0, 0)) ∧
    wr.ownsRow (w.heap.size + 4) 30 3 dv acc.length (rawsCells rs) ∧ RawsOf wr (fun b => w.heap.size + 4 ≤ b ∧ b < wr.heap.size ∧ dv.ownBlock ≠ some b) rs acc ∧ PAt wr (w.heap.size + 3) N rest ∧ Below w.heap.size w wr

theorem three_heap {w1 : World} {x y z : Nat} {xs ys zs x' y' z' : Value} {X Y Z : TypeId} (k1 : w1.heap[x]? = some (.cells #[xs] X (0, 0))) (k2 : w1.heap[y]? = some (.cells #[ys] Y (0, 0))) (k3 : w1.heap[z]? = some (.cells #[zs] Z (0, 0))) (h1 : x < y) (h2 : y < z) :
    let W := (((w1.setCell ⟨x, 0, none⟩ x').setCell ⟨y, 0, none⟩ y').setCell ⟨z, 0, none⟩ z')
    W.cell? ⟨x, 0, none⟩ = some x' ∧ W.cell? ⟨y, 0, none⟩ = some y' ∧ W.cell? ⟨z, 0, none⟩ = some z' ∧ Below x w1 W ∧ ∀ k, k ≠ x → k ≠ y → k ≠ z → W.heap[k]? = w1.heap[k]? := by
  obtain ⟨r1, r2, r3, r4⟩ := caught_heap (x' := x') (y' := y') (z' := z') k1 k2 k3 h1 h2
  refine ⟨?_, ?_, ?_, ⟨r4.os, r4.tape, r4.output, r4.size, r4.block⟩, fun k hx hy hz => ?_⟩
  · exact (Lib.cell_of_heap r1 0)
  · exact (Lib.cell_of_heap r2 0)
  · exact (Lib.cell_of_heap r3 0)
  · rw [Below.heap_setCell _ _ _ _ hz, Below.heap_setCell _ _ _ _ hy, Below.heap_setCell _ _ _ _ hx]

theorem elem_cells {w7 : World} {B gg n cap : Nat} {rs : List Raw} {x y z : Value} (hown : w7.ownsRow B 30 3 (.slice (some ⟨gg, 0, none⟩) (n + 1) cap) (n + 1) (rawsCells rs ++ [x, y, z])) (hn : rs.length = n) :
    w7.cell? ⟨gg, n * 3, none⟩ = some x ∧ w7.cell? ⟨gg, n * 3 + 1, none⟩ = some y ∧ w7.cell? ⟨gg, n * 3 + 2, none⟩ = some z := by
  have hl := rawsCells_len rs
  rw [hn] at hl
  refine ⟨?_, ?_, ?_⟩
  · rw [hown.cellAt _ (by omega), List.getElem?_append_right (by omega), hl, Nat.sub_self]; rfl
  · rw [hown.cellAt _ (by omega), List.getElem?_append_right (by omega), hl, Nat.add_sub_cancel_left]; rfl
  · rw [hown.cellAt _ (by omega), List.getElem?_append_right (by omega), hl, Nat.add_sub_cancel_left]; rfl
theorem elem_stored {w7 : World} {B gg n cap : Nat} {rs : List Raw} {x y z x' y' z' : Value} (hown : w7.ownsRow B 30 3 (.slice (some ⟨gg, 0, none⟩) (n + 1) cap) (n + 1) (rawsCells rs ++ [x, y, z])) (hn : rs.length = n) :
    (((w7.setCell ⟨gg, n * 3, none⟩ x').setCell ⟨gg, n * 3 + 1, none⟩ y').setCell ⟨gg, n * 3 + 2, none⟩ z').ownsRow B 30 3 (.slice (some ⟨gg, 0, none⟩) (n + 1) cap) (n + 1) (rawsCells rs ++ [x', y', z']) := by
  have hl := rawsCells_len rs
  rw [hn] at hl
  have h3 := (((hown.stored (n * 3) x').1.stored (n * 3 + 1) y').1.stored (n * 3 + 2) z').1
  have e : (((rawsCells rs ++ [x, y, z]).set (n * 3) x').set (n * 3 + 1) y').set (n * 3 + 2) z' = rawsCells rs ++ [x', y', z'] := by
    rw [List.set_append_right _ _ (by omega), List.set_append_right _ _ (by omega), List.set_append_right _ _ (by omega), hl, Nat.sub_self, Nat.add_sub_cancel_left, Nat.add_sub_cancel_left]
    rfl
  rw [e] at h3
  exact h3

theorem set1_heap {w : World} {b : Nat} {x x' : Value} {T : TypeId} {fr : Nat × Nat} (h : w.heap[b]? = some (.cells #[x] T fr)) : (w.setCell ⟨b, 0, none⟩ x').heap[b]? = some (.cells #[x'] T fr) := by
  simp [World.setCell, Array.getElem?_modify, h]
/-- the element and the variable are written, in either order -/
theorem stores_a {w7 : World} {B h gg n cap : Nat} {rs : List Raw} {dv V x y z x' y' z' : Value} {T : TypeId} (h0 : w7.heap[h]? = some (.cells #[dv] T (0, 0))) (hB : h < B)
    (hown : w7.ownsRow B 30 3 (.slice (some ⟨gg, 0, none⟩) (n + 1) cap) (n + 1) (rawsCells rs ++ [x, y, z])) (hn : rs.length = n) :
    let W := (((w7.setCell ⟨gg, n * 3, none⟩ x').setCell ⟨gg, n * 3 + 1, none⟩ y').setCell ⟨gg, n * 3 + 2, none⟩ z').setCell ⟨h, 0, none⟩ V
    W.heap[h]? = some (.cells #[V] T (0, 0)) ∧ W.ownsRow B 30 3 (.slice (some ⟨gg, 0, none⟩) (n + 1) cap) (n + 1) (rawsCells rs ++ [x', y', z']) ∧ (∀ k, k ≠ h → k ≠ gg → W.heap[k]? = w7.heap[k]?) ∧ Below h w7 W := by
  have hg := (hown.lt gg rfl).1
  have hne : h ≠ gg := by omega
  refine ⟨?_, ownsRow_setCell_below (elem_stored hown hn) (by show h < B; omega) _, fun k hk hg' => ?_, ((((Below.refl _ _).setCell (p := ⟨gg, n * 3, none⟩) (by show h ≤ gg; omega) _).setCell (p := ⟨gg, n * 3 + 1, none⟩) (by show h ≤ gg; omega) _).setCell (p := ⟨gg, n * 3 + 2, none⟩) (by show h ≤ gg; omega) _).setCell (p := ⟨h, 0, none⟩) (Nat.le_refl _) _⟩
  · exact set1_heap (by rw [Below.heap_setCell _ _ _ _ hne, Below.heap_setCell _ _ _ _ hne, Below.heap_setCell _ _ _ _ hne]; exact h0)
  · rw [Below.heap_setCell _ _ _ _ hk, Below.heap_setCell _ _ _ _ hg', Below.heap_setCell _ _ _ _ hg', Below.heap_setCell _ _ _ _ hg']
theorem stores_b {w7 : World} {B h gg n cap : Nat} {rs : List Raw} {dv V x y z x' y' z' : Value} {T : TypeId} (h0 : w7.heap[h]? = some (.cells #[dv] T (0, 0))) (hB : h < B)
    (hown : w7.ownsRow B 30 3 (.slice (some ⟨gg, 0, none⟩) (n + 1) cap) (n + 1) (rawsCells rs ++ [x, y, z])) (hn : rs.length = n) :
    let W := (((w7.setCell ⟨h, 0, none⟩ V).setCell ⟨gg, n * 3, none⟩ x').setCell ⟨gg, n * 3 + 1, none⟩ y').setCell ⟨gg, n * 3 + 2, none⟩ z'
    W.heap[h]? = some (.cells #[V] T (0, 0)) ∧ W.ownsRow B 30 3 (.slice (some ⟨gg, 0, none⟩) (n + 1) cap) (n + 1) (rawsCells rs ++ [x', y', z']) ∧ (∀ k, k ≠ h → k ≠ gg → W.heap[k]? = w7.heap[k]?) ∧ Below h w7 W := by
  have hg := (hown.lt gg rfl).1
  have hne : h ≠ gg := by omega
  refine ⟨?_, elem_stored (ownsRow_setCell_below hown (by show h < B; omega) _) hn, fun k hk hg' => ?_, ((((Below.refl _ _).setCell (p := ⟨h, 0, none⟩) (Nat.le_refl _) _).setCell (p := ⟨gg, n * 3, none⟩) (by show h ≤ gg; omega) _).setCell (p := ⟨gg, n * 3 + 1, none⟩) (by show h ≤ gg; omega) _).setCell (p := ⟨gg, n * 3 + 2, none⟩) (by show h ≤ gg; omega) _⟩
  · rw [Below.heap_setCell _ _ _ _ hne, Below.heap_setCell _ _ _ _ hne, Below.heap_setCell _ _ _ _ hne]
    exact set1_heap h0
  · rw [Below.heap_setCell _ _ _ _ hg', Below.heap_setCell _ _ _ _ hg', Below.heap_setCell _ _ _ _ hg', Below.heap_setCell _ _ _ _ hk]
/-- what a slice variable holds is no token -/
theorem PAt.skip {w W : World} {p h : Nat} {N : Int} {l : List Tok} {a : Option Addr} {n c : Nat} {T : TypeId} {fr : Nat × Nat} (hP : PAt w p N l) (hh : w.heap[h]? = some (.cells #[.slice a n c] T fr)) (hne : h ≠ p) (hk : ∀ k, k ≤ p → k ≠ h → W.heap[k]? = w.heap[k]?) : PAt W p N l := by
  obtain ⟨v, h1, h2⟩ := hP
  refine ⟨v, (hk p (Nat.le_refl _) (Ne.symm hne)).trans h1, ?_⟩
  rcases h2 with h2 | ⟨b, off, cap, e1, e2, e3, e4, e6⟩
  · exact .inl h2
  · by_cases hl : l.length = 0
    · exact .inl ⟨List.length_eq_zero_iff.1 hl, _, _, by rw [e1, hl]⟩
    · have hbh : b ≠ h := by
        rintro rfl
        obtain ⟨a0, _⟩ := e6 0 (by omega)
        rw [Lib.cell_of_heap hh] at a0
        cases ho : off + 0 * 3 with
        | zero => rw [ho] at a0; simp at a0
        | succ j => rw [ho] at a0; simp at a0
      refine .inr ⟨b, off, cap, e1, e2, e3, e4, fun j hj => ?_⟩
      obtain ⟨a0, a1, a2⟩ := e6 j hj
      have hc : ∀ o, W.cell? ⟨b, o, none⟩ = w.cell? ⟨b, o, none⟩ := fun o => World.cell?_of_block (hk b (by omega) hbh)
      exact ⟨(hc _).trans a0, (hc _).trans a1, (hc _).trans a2⟩

/-- what the door does hangs on the results' slots alone -/
theorem leaves_congr {P : Program} {fn : Func} {t1 t2 : Array Value} {R : Ending → World → Prop} (hr : results fn t1 = results fn t2) : ∀ (ds : List Deferred) (u : FrameMode) (w : World), Leaves P fn t1 R ds u w → Leaves P fn t2 R ds u w
  | [], .returning, w, h => by
    obtain ⟨v, h1, h2⟩ := h
    exact ⟨v, by rw [← hr]; exact h1, h2⟩
  | [], .panicking _, _, h => h
  | [], .run, _, h => h
  | d :: ds, u, w, h => by
    obtain ⟨h1, fv, cap, f, args, h2, h3, h4⟩ := h
    refine ⟨h1, fv, cap, f, args, h2, h3, h4.mono ?_⟩
    intro e u' w' he
    cases e with
    | returned v => exact leaves_congr hr ds _ _ he
    | panicked c => exact leaves_congr hr ds _ _ he
    | outgrown => exact he
theorem results_put (t : Array Value) (i : Nat) (v : Value) (h : 7 ≤ i) : results Tryd.f21 (t.setIfInBounds i v) = results Tryd.f21 t := by
  have e : ∀ j, j < 7 → (t.setIfInBounds i v)[j]? = t[j]? := fun j hj => by
    rw [Array.getElem?_setIfInBounds, if_neg (by omega)]
  simp [results, Tryd.results21, e 4 (by omega), e 5 (by omega), e 6 (by omega)]
theorem door_put {R : Ending → World → Prop} {c : List PanicEntry} {a : Act} {w : World} (i : Nat) (v : Value) (hi : 7 ≤ i) (h : bodyPostD Tryd.prog Tryd.f21 R (.panic c) (a.put (some i) v) w) : bodyPostD Tryd.prog Tryd.f21 R (.panic c) a w :=
  leaves_congr (results_put a.tmps i v hi) _ _ _ h

/-- one datum more has been read -/
theorem prel_next {N : Int} {w wr w5 w6 w7 W : World} {res : RRes} {L g n6 gg cap' dc qc : Nat} {q : List Tok} {acc : List Dat} {d : Dat} {rs : List Raw} {da : Option Addr} {qa : Option Addr}
    (HR : res = allF N g q (acc ++ [d])) (HQS : ∀ u ∈ q, smTok u)
    (HX0 : wr.heap[w.heap.size]? = some (.cells #[.slice da acc.length dc] 23 (0, 0))) (HX1 : wr.heap[w.heap.size + 1]? = some (.cells #[.int .i64 0] 3 (0, 0))) (HX2 : wr.heap[w.heap.size + 2]? = some (.cells #[.int .i64 0] 24 (0, 0)))
    (HOWN : wr.ownsRow (w.heap.size + 4) 30 3 (.slice da acc.length dc) acc.length (rawsCells rs))
    (HRAW : RawsOf wr (fun b => w.heap.size + 4 ≤ b ∧ b < wr.heap.size ∧ (Value.slice da acc.length dc).ownBlock ≠ some b) rs acc) (HBW : Below w.heap.size w wr)
    (HK5' : KeepP (w.heap.size + 3) wr w5) (HK6' : KeepP (w.heap.size + 3) w5 w6) (HP6 : PAt w6 (w.heap.size + 3) N q)
    (HS6 : SliceOf w6 (fun b => w5.heap.size ≤ b ∧ b < w6.heap.size) (.slice qa n6 qc) d.list)
    (HL67 : ∀ k, k < w6.heap.size → (Value.slice da acc.length dc).ownBlock ≠ some k → w7.heap[k]? = w6.heap[k]?)
    (HLK : ∀ k, k < wr.heap.size → k ≠ w.heap.size + 3 → (Value.slice da acc.length dc).ownBlock ≠ some k → w7.heap[k]? = wr.heap[k]?)
    (HAT2 : ∀ b, b < w6.heap.size → (Value.slice da acc.length dc).ownBlock ≠ some b → gg ≠ b) (HLB : Below (w.heap.size + 4) w6 w7)
    {x y z : Value} (HOW7 : w7.ownsRow (w.heap.size + 4) 30 3 (.slice (some ⟨gg, 0, none⟩) (acc.length + 1) cap') (acc.length + 1) (rawsCells rs ++ [x, y, z]))
    (hW0 : W.heap[w.heap.size]? = some (.cells #[.slice (some ⟨gg, 0, none⟩) (acc.length + 1) cap'] 23 (0, 0)))
    (hWo : W.ownsRow (w.heap.size + 4) 30 3 (.slice (some ⟨gg, 0, none⟩) (acc.length + 1) cap') (acc.length + 1) (rawsCells rs ++ [.int .i64 d.kind, .string d.text, .slice qa n6 qc]))
    (hWk : ∀ k, k ≠ w.heap.size → k ≠ gg → W.heap[k]? = w7.heap[k]?) (hWB : Below w.heap.size w7 W)
    (h1 : q.length < g) (h2 : acc.length + 1 + q.length ≤ L) (h3 : w.heap.size + 3 < wr.heap.size) : PRel N w res L g W := by
  have hgl := HOW7.lt gg rfl
  have hzW := hWB.size
  have hl5 := HK5'.size
  have hl6 := HK6'.size
  have hl7 := HLB.size
  have hgw : ∀ k, k < w.heap.size + 4 → k ≠ w.heap.size → W.heap[k]? = w6.heap[k]? := fun k hk hk0 => by
    have hro : (Value.slice da acc.length dc).ownBlock ≠ some k := fun h => by have := (HOWN.lt _ h).1; omega
    exact (hWk k hk0 (by omega)).trans (HL67 k (by omega) hro)
  have hgr : ∀ k, k < w.heap.size + 4 → k ≠ w.heap.size → k ≠ w.heap.size + 3 → W.heap[k]? = wr.heap[k]? := fun k hk hk0 hkp => by
    have hro : (Value.slice da acc.length dc).ownBlock ≠ some k := fun h => by have := (HOWN.lt _ h).1; omega
    exact (hWk k hk0 (by omega)).trans (HLK k (by omega) hkp hro)
  have h06 : w6.heap[w.heap.size]? = some (.cells #[.slice da acc.length dc] 23 (0, 0)) := (HK6'.block _ (by omega) (by omega)).trans ((HK5'.block _ (by omega) (by omega)).trans HX0)
  refine ⟨q, acc ++ [d], rs ++ [⟨d.kind, d.text, .slice qa n6 qc⟩], .slice (some ⟨gg, 0, none⟩) (acc.length + 1) cap', HR, h1, by simp only [List.length_append, List.length_cons, List.length_nil]; omega, HQS, hW0, ?_, ?_, ?_, ?_, HP6.skip h06 (by omega) (fun k hk hk0 => hgw k (by omega) hk0), ?_⟩
  · exact (hgr _ (by omega) (by omega) (by omega)).trans HX1
  · exact (hgr _ (by omega) (by omega) (by omega)).trans HX2
  · rw [List.length_append, rawsCells_app]; exact hWo
  · have r1 : RawsOf W (fun b => w.heap.size + 4 ≤ b ∧ b < W.heap.size ∧ (Value.slice (some ⟨gg, 0, none⟩) (acc.length + 1) cap').ownBlock ≠ some b) rs acc := by
      refine HRAW.mono (fun b hb => ⟨hb.1, by have := hb.2.1; omega, ?_⟩) (fun b o hb => World.cell?_of_block ?_)
      · exact (hWk b (by omega) (fun h => HAT2 b (by have := hb.2.1; omega) hb.2.2 h.symm)).trans (HLK b hb.2.1 (by have := hb.1; omega) hb.2.2)
      · intro h
        simp only [Value.ownBlock, Option.some.injEq] at h
        exact HAT2 b (by have := hb.2.1; omega) hb.2.2 h
    have r2 : SliceOf W (fun b => w.heap.size + 4 ≤ b ∧ b < W.heap.size ∧ (Value.slice (some ⟨gg, 0, none⟩) (acc.length + 1) cap').ownBlock ≠ some b) (.slice qa n6 qc) d.list := by
      have hro : ∀ b, w5.heap.size ≤ b → (Value.slice da acc.length dc).ownBlock ≠ some b := fun b hb h' => by have := (HOWN.lt _ h').2; omega
      refine HS6.mono (fun b hb => ⟨by omega, by have := hb.2; omega, ?_⟩) (fun b o hb => World.cell?_of_block ?_)
      · exact (hWk b (by omega) (fun h => HAT2 b hb.2 (hro b hb.1) h.symm)).trans (HL67 b hb.2 (hro b hb.1))
      · intro h
        simp only [Value.ownBlock, Option.some.injEq] at h
        exact HAT2 b hb.2 (hro b hb.1) h
    exact r1.snoc ⟨rfl, rfl, r2⟩
  · exact (((HBW.trans (HK5'.below (by omega) (by omega))).trans (HK6'.below (by omega) (by omega))).trans (HLB.mono (by omega))).trans hWB
end Go.Proofs.YtghgjefobfaodaaDoor
