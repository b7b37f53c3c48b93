import Derived.Test.YtgjkobkcmgliaaaNwKt
import Derived.Laws.MakeOwn
namespace Go.Proofs.Ytgjkobkcmgliaaa
open Go.RowKit

/-- nothing -/
abbrev N0 : Nat → Prop := fun _ => False
theorem n0 {w : World} : ∀ b, N0 b → b < w.heap.size := fun _ h => h.elim
/-- a row of types in a block of the call's own -/
def RowG (g n : Nat) (w : World) (l : List Ty) : Prop := l.length = n ∧ n ≤ maxLen ∧ ∃ rs, w.heap[g]? = some (.cells (rawsCells rs).toArray 49 (0, 0)) ∧ RawsOf w (Lo (· = g) w) rs l
theorem raws_set {rs : List RawT} {j : Nat} {r : RawT} (hj : j < rs.length) : rawsCells (rs.set j r) = ((((((rawsCells rs).set (j * 6) (.bool r.all)).set (j * 6 + 1) (.int .i64 r.flat)).set (j * 6 + 2) (.int .i64 r.pair)).set (j * 6 + 3) r.pv).set (j * 6 + 4) (.int .i64 r.fn)).set (j * 6 + 5) r.fv := by
  induction rs generalizing j with
  | nil => simp at hj
  | cons x s ih =>
    have e : ∀ x s, rawsCells (x :: s) = .bool x.all :: .int .i64 x.flat :: .int .i64 x.pair :: x.pv :: .int .i64 x.fn :: x.fv :: rawsCells s := fun _ _ => rfl
    cases j with
    | zero => rw [List.set_cons_zero, e, e]; rfl
    | succ j =>
      rw [List.set_cons_succ, e, e, ih (by simpa using hj)]
      simp only [show (j + 1) * 6 = j * 6 + 6 by omega, List.set_cons_succ]
section
variable {g n : Nat} {w w' : World} {l : List Ty}
theorem RowG.lt (h : RowG g n w l) : g < w.heap.size := by
  obtain ⟨_, _, rs, hg, _⟩ := h
  exact (Array.getElem?_eq_some_iff.1 hg).1
theorem RowG.keep (h : RowG g n w l) (hb : Below w.heap.size w w') : RowG g n w' l := by
  have hlt := h.lt
  obtain ⟨h1, h2, rs, hg, hr⟩ := h
  exact ⟨h1, h2, rs, (hb.block g hlt).trans hg, hr.mono (fun b h => ⟨Nat.lt_of_lt_of_le h.1 hb.size, h.2⟩) fun b o h => hb.cell (p := ⟨b, o, none⟩) h.1⟩
theorem RowG.get (h : RowG g n w l) {j : Nat} (hj : j < n) : ∃ a f p pa pn pc k fa fn fc, w.cell? ⟨g, j * 6, none⟩ = some (.bool a) ∧ w.cell? ⟨g, j * 6 + 1, none⟩ = some (.int .i64 f) ∧ w.cell? ⟨g, j * 6 + 2, none⟩ = some (.int .i64 p) ∧ w.cell? ⟨g, j * 6 + 3, none⟩ = some (.slice pa pn pc) ∧
    w.cell? ⟨g, j * 6 + 4, none⟩ = some (.int .i64 k) ∧ w.cell? ⟨g, j * 6 + 5, none⟩ = some (.slice fa fn fc) ∧ (∀ o, w.frozen? ⟨g, o, none⟩ = false) ∧ TyVN (· = g) w (.agg #[.bool a, .int .i64 f, .int .i64 p, .slice pa pn pc, .int .i64 k, .slice fa fn fc]) (l.getD j ty0) := by
  obtain ⟨h1, _, rs, hg, hr⟩ := h
  have hjl : j < l.length := by omega
  have hjr : j < rs.length := by rw [hr.1]; exact hjl
  have h2 := hr.2 j hjl
  have hc : ∀ i, i < 6 → w.cell? ⟨g, j * 6 + i, none⟩ = (rawCells (rs.getD j raw0))[i]? := fun i hi => by
    rw [Lib.cell_of_heap hg, List.getElem?_toArray]; exact rawsCells_get rs j i hjr hi
  obtain ⟨r, hr0⟩ : ∃ r, r = rs.getD j raw0 := ⟨_, rfl⟩
  rw [← hr0] at h2 hc
  clear hr0
  obtain ⟨a, f, p, pv, k, fv⟩ := r
  obtain ⟨pa, pc, e1⟩ := h2.pv.val
  obtain ⟨fa, fc, e2⟩ := h2.fv.val
  (try simp only at e1 e2)
  subst e1 e2
  exact ⟨a, f, p, pa, _, pc, k, fa, _, fc, hc 0 (by omega), hc 1 (by omega), hc 2 (by omega), hc 3 (by omega), hc 4 (by omega), hc 5 (by omega), fun o => Lib.frozen_of_heap hg o, ⟨⟨a, f, p, _, k, _⟩, rfl, h2⟩⟩
/-- one of the row is written over -/
theorem RowG.set (h : RowG g n w l) {j : Nat} (hj : j < n) {a : Bool} {f p k : Int} {pv fv : Value} {t : Ty} (hv : TyVN (· = g) w (.agg #[.bool a, .int .i64 f, .int .i64 p, pv, .int .i64 k, fv]) t) :
    RowG g n ((((((w.setCell ⟨g, j * 6, none⟩ (.bool a)).setCell ⟨g, j * 6 + 1, none⟩ (.int .i64 f)).setCell ⟨g, j * 6 + 2, none⟩ (.int .i64 p)).setCell ⟨g, j * 6 + 3, none⟩ (pv)).setCell ⟨g, j * 6 + 4, none⟩ (.int .i64 k)).setCell ⟨g, j * 6 + 5, none⟩ (fv)) (l.set j t) := by
  obtain ⟨h1, h2, rs, hg, hr⟩ := h
  obtain ⟨⟨a', f', p', pv', k', fv'⟩, e, hv⟩ := hv
  simp only [rawV, Value.agg.injEq, Array.mk.injEq, List.cons.injEq, Value.bool.injEq, Value.int.injEq, true_and, and_true] at e
  obtain ⟨rfl, rfl, rfl, rfl, rfl, rfl⟩ := e
  have hjr : j < rs.length := by rw [hr.1]; omega
  have hc : ∀ b o, Lo (· = g) w b → (((((((w.setCell ⟨g, j * 6, none⟩ (.bool a)).setCell ⟨g, j * 6 + 1, none⟩ (.int .i64 f)).setCell ⟨g, j * 6 + 2, none⟩ (.int .i64 p)).setCell ⟨g, j * 6 + 3, none⟩ (pv)).setCell ⟨g, j * 6 + 4, none⟩ (.int .i64 k)).setCell ⟨g, j * 6 + 5, none⟩ (fv))).cell? ⟨b, o, none⟩ = w.cell? ⟨b, o, none⟩ := fun b o hb => by
    have hne : b ≠ g := hb.2
    refine World.cell?_of_block ?_
    simp only [World.setCell, Array.getElem?_modify, Ne.symm hne, if_false]
  have hl : ∀ b, Lo (· = g) w b → Lo (· = g) (((((((w.setCell ⟨g, j * 6, none⟩ (.bool a)).setCell ⟨g, j * 6 + 1, none⟩ (.int .i64 f)).setCell ⟨g, j * 6 + 2, none⟩ (.int .i64 p)).setCell ⟨g, j * 6 + 3, none⟩ (pv)).setCell ⟨g, j * 6 + 4, none⟩ (.int .i64 k)).setCell ⟨g, j * 6 + 5, none⟩ (fv))) b := fun b hb => ⟨by simpa [World.setCell] using hb.1, hb.2⟩
  refine ⟨by simpa using h1, h2, rs.set j ⟨a, f, p, pv, k, fv⟩, ?_, by simpa using hr.1, fun i hi => ?_⟩
  · rw [raws_set hjr]
    simp [World.setCell, Array.getElem?_modify, hg]
  · rw [List.length_set] at hi
    by_cases e : j = i
    · subst e
      have e1 : (rs.set j ⟨a, f, p, pv, k, fv⟩).getD j raw0 = ⟨a, f, p, pv, k, fv⟩ := by simp [List.getD_eq_getElem?_getD, hjr]
      have e2 : (l.set j t).getD j ty0 = t := by simp [List.getD_eq_getElem?_getD, hi]
      rw [e1, e2]
      exact hv.mono hl hc
    · have e1 : (rs.set j ⟨a, f, p, pv, k, fv⟩).getD i raw0 = rs.getD i raw0 := by simp [List.getD_eq_getElem?_getD, e]
      have e2 : (l.set j t).getD i ty0 = l.getD i ty0 := by simp [List.getD_eq_getElem?_getD, e]
      rw [e1, e2]
      exact (hr.2 i hi).mono hl hc
theorem RowG.done (h : RowG g n w l) : TyS w (Lo N0 w) (.slice (some ⟨g, 0, none⟩) n n) l := by
  have hlt := h.lt
  obtain ⟨h1, h2, rs, hg, hr⟩ := h
  subst h1
  refine TyS.mk (rs := rs) ⟨hlt, id⟩ h2 (fun j hj => ?_) (hr.mono (fun b h => ⟨h.1, id⟩) fun _ _ _ => rfl) (Nat.le_refl _)
  have hc : ∀ i, i < 6 → w.cell? ⟨g, 0 + j * 6 + i, none⟩ = (rawCells (rs.getD j raw0))[i]? := fun i hi => by
    rw [Lib.cell_of_heap hg, List.getElem?_toArray, Nat.zero_add]; exact rawsCells_get rs j i hj hi
  exact ⟨hc 0 (by omega), hc 1 (by omega), hc 2 (by omega), hc 3 (by omega), hc 4 (by omega), hc 5 (by omega)⟩
end
set_option maxRecDepth 100000 in
/-- 'make' of a row of types -/
theorem mkty_any (n : Nat) (hn : n ≤ 100000) (w : World) : (Instr.makeSlice 46 (.int .i64 n) (.int .i64 n)).run Try.prog w = .ok (.slice (some ⟨w.heap.size, 0, none⟩) n n) (w.alloc (.cells (rawsCells (List.replicate n raw0)).toArray 49)) := by
  obtain ⟨i0, hi, hz0, hz1, hz2⟩ := info_parts Try.infoTy
  have h := run_make w 46 49 i0 _ Try.underlying46 hi hz0 .i64 .i64 n n (by omega) (by omega) (by rw [hz2]; omega) (by omega)
  rw [h, hz1]
  have e : ((n : Int)).toNat = n := by omega
  rw [e]
  congr 4
  apply Array.ext_getElem?
  intro q
  refine Eq.trans ?_ (List.getElem?_toArray (xs := rawsCells (List.replicate n raw0)) (i := q)).symm
  by_cases hq : q < n * 6
  · have h1 := rawsCells_get (List.replicate n raw0) (q / 6) (q % 6) (by simp; omega) (Nat.mod_lt _ (by omega))
    rw [show q / 6 * 6 + q % 6 = q by omega] at h1
    have e0 : (List.replicate n raw0).getD (q / 6) raw0 = raw0 := by simp [List.getD_eq_getElem?_getD, List.getElem?_replicate]; split <;> rfl
    rw [h1, e0]
    simp [madeCells, Value.cells, hq, rawCells, raw0]
    rcases (by omega : q % 6 = 0 ∨ q % 6 = 1 ∨ q % 6 = 2 ∨ q % 6 = 3 ∨ q % 6 = 4 ∨ q % 6 = 5) with h | h | h | h | h | h <;> simp [h]
  · rw [List.getElem?_eq_none (by rw [rawsCells_len]; simp; omega)]
    simp [madeCells, hq]
theorem RowG.made (n : Nat) (hn : n ≤ 100000) (w : World) : RowG w.heap.size n (w.alloc (.cells (rawsCells (List.replicate n raw0)).toArray 49)) (List.replicate n ty0) := by
  refine ⟨by simp, by unfold maxLen; omega, List.replicate n raw0, alloc_at rfl, by simp, fun j hj => ?_⟩
  have hj2 : j < n := by simpa using hj
  have e0 : (List.replicate n raw0).getD j raw0 = raw0 := by simp [List.getD_eq_getElem?_getD, hj2]
  have e1 : (List.replicate n ty0).getD j ty0 = ty0 := by simp [List.getD_eq_getElem?_getD, hj2]
  rw [e0, e1]
  exact ⟨rfl, rfl, rfl, rfl, .mkNil _ _, .mkNil _ _⟩
/-- the types of variables, where facts hold -/
def step1 (l : List Ty) (f : Int × Int) : List Ty := if 0 ≤ f.1 ∧ f.1 < l.length then l.set f.1.toNat (keepT (l.getD f.1.toNat ty0) (lowN f.2)) else l
def applyT (ts : List Ty) (F : Fcs) : List Ty := if F.never then List.replicate ts.length ty0 else F.l.foldl step1 ts
theorem hd_cut {t : Ty} (h : HdT t) (ha : t.all = false) (g : Nat) : HdT (cutT t g) := by
  obtain ⟨h1, h2, h3, h4, h5, h6, h7, h8, h9, h10⟩ := headH h
  obtain ⟨a, f, p, ps, k, fs⟩ := t
  simp only [Ty.all, Ty.flat, Ty.pair, Ty.pairs, Ty.fn, Ty.funs] at h1 h2 h3 h4 h5 h6 h7 h8 h9 h10 ha
  have hf : ((f.toNat &&& g : Nat) : Int) ≤ 63 := by
    have : f.toNat &&& g ≤ f.toNat := Nat.and_le_left
    omega
  refine decide_eq_true ?_
  show 0 ≤ ((f.toNat &&& g : Nat) : Int) ∧ ((f.toNat &&& g : Nat) : Int) ≤ 63 ∧ 0 ≤ (if g &&& 64 = 0 then 0 else p) ∧ (if g &&& 64 = 0 then 0 else p) ≤ 2 ∧ 0 ≤ (if g &&& 128 = 0 then 0 else k) ∧ (if g &&& 128 = 0 then 0 else k) ≤ 2 ∧
    (a = true → ((f.toNat &&& g : Nat) : Int) = 0 ∧ (if g &&& 64 = 0 then 0 else p) = 0 ∧ (if g &&& 128 = 0 then 0 else k) = 0) ∧
    ((if g &&& 64 = 0 then [] else ps).length : Int) = (if (if g &&& 64 = 0 then 0 else p) = 1 then 2 else if (if g &&& 64 = 0 then 0 else p) = 2 then 1 else 0) ∧ ((if g &&& 128 = 0 then 0 else k) ≠ 1 → (if g &&& 128 = 0 then [] else fs).length = 0) ∧ ((if g &&& 128 = 0 then 0 else k) = 1 → 1 ≤ (if g &&& 128 = 0 then [] else fs).length ∧ (if g &&& 128 = 0 then [] else fs).length ≤ 9)
  refine ⟨by omega, hf, ?_, ?_, ?_, ?_, (fun h => by rw [ha] at h; cases h), ?_, ?_, ?_⟩
  · split <;> omega
  · split <;> omega
  · split <;> omega
  · split <;> omega
  · by_cases c : g &&& 64 = 0
    · simp [c]
    · simp only [c, if_false]
      by_cases c1 : p = 1 <;> by_cases c2 : p = 2 <;> simp [c1, c2] at h8 ⊢ <;> omega
  · by_cases c : g &&& 128 = 0
    · simp [c]
    · simpa [c] using h9
  · by_cases c : g &&& 128 = 0
    · simp [c]
    · simpa [c] using h10
theorem hd_keep {t : Ty} (h : HdT t) (g : Nat) : HdT (keepT t g) := by
  unfold keepT
  split
  · show headOK tyAll = true; decide
  · split
    · exact hd_cut (show headOK allT = true by decide) rfl g
    · rename_i h2; exact hd_cut h (by simpa using h2) g
end Go.Proofs.Ytgjkobkcmgliaaa
