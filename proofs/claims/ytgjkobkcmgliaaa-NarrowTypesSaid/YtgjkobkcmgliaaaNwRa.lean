import Derived.Test.YtgjkobkcmgliaaaNwAp
import Derived.Test.YtgjkobkcmgliaaaNwKr
namespace Go.Proofs.Ytgjkobkcmgliaaa
open Go.RowKit

/-- a row of types in a block of the call's own, behind it spare places -/
def RowH (g n : Nat) (w : World) (l : List Ty) : Prop := l.length = n ∧ n ≤ maxLen ∧ ∃ rs cur, w.heap[g]? = some (.cells cur 49 (0, 0)) ∧ cur.toList.take (n * 6) = rawsCells rs ∧ RawsOf w (Lo (· = g) w) rs l
section
variable {g n : Nat} {w w' : World} {l : List Ty}
theorem RowH.lt (h : RowH g n w l) : g < w.heap.size := by
  obtain ⟨_, _, rs, cur, hg, _⟩ := h
  exact (Array.getElem?_eq_some_iff.1 hg).1
theorem RowH.keep (h : RowH g n w l) (hb : Below w.heap.size w w') : RowH g n w' l := by
  have hlt := h.lt
  obtain ⟨h1, h2, rs, cur, hg, ht, hr⟩ := h
  exact ⟨h1, h2, rs, cur, (hb.block g hlt).trans hg, ht, hr.mono (fun b h => ⟨Nat.lt_of_lt_of_le h.1 hb.size, h.2⟩) fun b o h => hb.cell (p := ⟨b, o, none⟩) h.1⟩
theorem take_at {cur : Array Value} {L : List Value} {N k : Nat} (h : cur.toList.take N = L) (hk : k < N) : cur[k]? = L[k]? := by
  rw [← h, List.getElem?_take_of_lt hk, Array.getElem?_toList]
theorem RowH.get (h : RowH g n w l) {j : Nat} (hj : j < n) : ∃ a f p pa pn pc k fa fn fc, w.cell? ⟨g, j * 6, none⟩ = some (.bool a) ∧ w.cell? ⟨g, j * 6 + 1, none⟩ = some (.int .i64 f) ∧ w.cell? ⟨g, j * 6 + 2, none⟩ = some (.int .i64 p) ∧ w.cell? ⟨g, j * 6 + 3, none⟩ = some (.slice pa pn pc) ∧
    w.cell? ⟨g, j * 6 + 4, none⟩ = some (.int .i64 k) ∧ w.cell? ⟨g, j * 6 + 5, none⟩ = some (.slice fa fn fc) ∧ (∀ o, w.frozen? ⟨g, o, none⟩ = false) ∧ TyVN (· = g) w (.agg #[.bool a, .int .i64 f, .int .i64 p, .slice pa pn pc, .int .i64 k, .slice fa fn fc]) (l.getD j ty0) := by
  obtain ⟨h1, _, rs, cur, hg, ht, hr⟩ := h
  have hjl : j < l.length := by omega
  have hjr : j < rs.length := by rw [hr.1]; exact hjl
  have h2 := hr.2 j hjl
  have hc : ∀ i, i < 6 → w.cell? ⟨g, j * 6 + i, none⟩ = (rawCells (rs.getD j raw0))[i]? := fun i hi => by
    rw [Lib.cell_of_heap hg, take_at ht (by omega)]; exact rawsCells_get rs j i hjr hi
  obtain ⟨r, hr0⟩ : ∃ r, r = rs.getD j raw0 := ⟨_, rfl⟩
  rw [← hr0] at h2 hc
  clear hr0
  obtain ⟨a, f, p, pv, k, fv⟩ := r
  obtain ⟨pa, pc, e1⟩ := h2.pv.val
  obtain ⟨fa, fc, e2⟩ := h2.fv.val
  (try simp only at e1 e2)
  subst e1 e2
  exact ⟨a, f, p, pa, _, pc, k, fa, _, fc, hc 0 (by omega), hc 1 (by omega), hc 2 (by omega), hc 3 (by omega), hc 4 (by omega), hc 5 (by omega), fun o => Lib.frozen_of_heap hg o, ⟨⟨a, f, p, _, k, _⟩, rfl, h2⟩⟩
/-- one of the row is written over -/
theorem RowH.set (h : RowH g n w l) {j : Nat} (hj : j < n) {a : Bool} {f p k : Int} {pv fv : Value} {t : Ty} (hv : TyVN (· = g) w (.agg #[.bool a, .int .i64 f, .int .i64 p, pv, .int .i64 k, fv]) t) :
    RowH g n ((((((w.setCell ⟨g, j * 6, none⟩ (.bool a)).setCell ⟨g, j * 6 + 1, none⟩ (.int .i64 f)).setCell ⟨g, j * 6 + 2, none⟩ (.int .i64 p)).setCell ⟨g, j * 6 + 3, none⟩ (pv)).setCell ⟨g, j * 6 + 4, none⟩ (.int .i64 k)).setCell ⟨g, j * 6 + 5, none⟩ (fv)) (l.set j t) := by
  obtain ⟨h1, h2, rs, cur, hg, ht, hr⟩ := h
  obtain ⟨⟨a', f', p', pv', k', fv'⟩, e, hv⟩ := hv
  simp only [rawV, Value.agg.injEq, Array.mk.injEq, List.cons.injEq, Value.bool.injEq, Value.int.injEq, true_and, and_true] at e
  obtain ⟨rfl, rfl, rfl, rfl, rfl, rfl⟩ := e
  have hjr : j < rs.length := by rw [hr.1]; omega
  have hc : ∀ b o, Lo (· = g) w b → (((((((w.setCell ⟨g, j * 6, none⟩ (.bool a)).setCell ⟨g, j * 6 + 1, none⟩ (.int .i64 f)).setCell ⟨g, j * 6 + 2, none⟩ (.int .i64 p)).setCell ⟨g, j * 6 + 3, none⟩ (pv)).setCell ⟨g, j * 6 + 4, none⟩ (.int .i64 k)).setCell ⟨g, j * 6 + 5, none⟩ (fv))).cell? ⟨b, o, none⟩ = w.cell? ⟨b, o, none⟩ := fun b o hb => by
    have hne : b ≠ g := hb.2
    refine World.cell?_of_block ?_
    simp only [World.setCell, Array.getElem?_modify, Ne.symm hne, if_false]
  have hl : ∀ b, Lo (· = g) w b → Lo (· = g) (((((((w.setCell ⟨g, j * 6, none⟩ (.bool a)).setCell ⟨g, j * 6 + 1, none⟩ (.int .i64 f)).setCell ⟨g, j * 6 + 2, none⟩ (.int .i64 p)).setCell ⟨g, j * 6 + 3, none⟩ (pv)).setCell ⟨g, j * 6 + 4, none⟩ (.int .i64 k)).setCell ⟨g, j * 6 + 5, none⟩ (fv))) b := fun b hb => ⟨by simpa [World.setCell] using hb.1, hb.2⟩
  refine ⟨by simpa using h1, h2, rs.set j ⟨a, f, p, pv, k, fv⟩, (((((cur.setIfInBounds (j * 6) (.bool a)).setIfInBounds (j * 6 + 1) (.int .i64 f)).setIfInBounds (j * 6 + 2) (.int .i64 p)).setIfInBounds (j * 6 + 3) pv).setIfInBounds (j * 6 + 4) (.int .i64 k)).setIfInBounds (j * 6 + 5) fv, ?_, ?_, by simpa using hr.1, fun i hi => ?_⟩
  · simp [World.setCell, Array.getElem?_modify, hg]
  · rw [raws_set hjr]
    simp only [Array.toList_setIfInBounds, List.take_set, ht]
  · rw [List.length_set] at hi
    by_cases e : j = i
    · subst e
      have e1 : (rs.set j ⟨a, f, p, pv, k, fv⟩).getD j raw0 = ⟨a, f, p, pv, k, fv⟩ := by simp [List.getD_eq_getElem?_getD, hjr]
      have e2 : (l.set j t).getD j ty0 = t := by simp [List.getD_eq_getElem?_getD, hi]
      rw [e1, e2]
      exact hv.mono hl hc
    · have e1 : (rs.set j ⟨a, f, p, pv, k, fv⟩).getD i raw0 = rs.getD i raw0 := by simp [List.getD_eq_getElem?_getD, e]
      have e2 : (l.set j t).getD i ty0 = l.getD i ty0 := by simp [List.getD_eq_getElem?_getD, e]
      rw [e1, e2]
      exact (hr.2 i hi).mono hl hc
end
/-- what facts leave of one variable's type -/
def colT (l : List (Int × Int)) (i : Nat) (t : Ty) : Ty := l.foldl (fun t f => if f.1 = (i : Int) then keepT t (lowN f.2) else t) t
theorem tyD_set (l : List Ty) (i j : Nat) (t : Ty) : (l.set i t).getD j ty0 = if i = j ∧ i < l.length then t else l.getD j ty0 := by
  by_cases e : i = j
  · subst e
    by_cases h : i < l.length
    · simp [List.getD_eq_getElem?_getD, h]
    · simp [List.getD_eq_getElem?_getD, h]
  · simp [List.getD_eq_getElem?_getD, e]
theorem steps_at (l : List (Int × Int)) : ∀ (ts : List Ty) (j : Nat), j < ts.length → (l.foldl step1 ts).getD j ty0 = colT l j (ts.getD j ty0) := by
  unfold colT
  induction l with
  | nil => exact fun _ _ _ => rfl
  | cons f s ih =>
    intro ts j hj
    rw [List.foldl_cons, List.foldl_cons, ih _ _ (by have := steps_len [f] ts; simp only [List.foldl_cons, List.foldl_nil] at this; omega)]
    congr 1
    unfold step1
    by_cases hc : 0 ≤ f.1 ∧ f.1 < ts.length
    · rw [if_pos hc, tyD_set]
      by_cases e : f.1 = (j : Int)
      · have e2 : f.1.toNat = j := by omega
        rw [if_pos ⟨e2, by omega⟩, if_pos e, e2]
      · rw [if_neg (by omega), if_neg e]
    · rw [if_neg hc, if_neg (by omega)]
theorem apply_at (ts : List Ty) (nv : Bool) (l : List (Int × Int)) (j : Nat) (hj : j < ts.length) : (applyT ts ⟨nv, l⟩).getD j ty0 = if nv then ty0 else colT l j (ts.getD j ty0) := by
  cases nv
  · exact steps_at l ts j hj
  · simp [applyT, List.getD_eq_getElem?_getD, hj]
theorem apply_len (ts : List Ty) (F : Fcs) : (applyT ts F).length = ts.length := by
  unfold applyT
  split
  · simp
  · exact steps_len _ _
theorem col_snoc (l : List (Int × Int)) (i k : Nat) (t : Ty) (hk : k < l.length) {x y : Int} (hx : (l.getD k fa0).1 = x) (hy : (l.getD k fa0).2 = y) : colT (l.take (k + 1)) i t = if x = (i : Int) then keepT (colT (l.take k) i t) (lowN y) else colT (l.take k) i t := by
  have e0 : l.getD k fa0 = l[k]'hk := by simp [List.getD_eq_getElem?_getD, hk]
  unfold colT
  rw [List.take_succ_eq_append_getElem hk, List.foldl_append, ← hx, ← hy, e0]
  rfl
theorem col_hd (l : List (Int × Int)) (i : Nat) : ∀ (t : Ty), HdT t → HdT (colT l i t) := by
  unfold colT
  induction l with
  | nil => exact fun _ h => h
  | cons f s ih =>
    intro t h
    rw [List.foldl_cons]
    refine ih _ ?_
    split
    · exact hd_keep h _
    · exact h
theorem list_ext {l m : List Ty} (h : l.length = m.length) (he : ∀ j, j < l.length → l.getD j ty0 = m.getD j ty0) : l = m := by
  refine List.ext_getElem h fun j h1 h2 => ?_
  have := he j h1
  simpa [List.getD_eq_getElem?_getD, h1, h2] using this
theorem ra_next {T A ts : List Ty} {i n : Nat} (h1 : ∀ j, j < i → T.getD j ty0 = A.getD j ty0) (h2 : T.getD i ty0 = A.getD i ty0) (h3 : ∀ j, i < j → j < n → T.getD j ty0 = ts.getD j ty0) :
    (∀ j, j < i + 1 → T.getD j ty0 = A.getD j ty0) ∧ ∀ j, i + 1 ≤ j → j < n → T.getD j ty0 = ts.getD j ty0 := by
  refine ⟨fun j hj => ?_, fun j hj hn => h3 j (by omega) hn⟩
  by_cases e : j = i
  · rw [e]; exact h2
  · exact h1 j (by omega)
theorem ri_set {T A ts : List Ty} {i n : Nat} (t : Ty) (hl : i < T.length) (h1 : ∀ j, j < i → T.getD j ty0 = A.getD j ty0) (h3 : ∀ j, i < j → j < n → T.getD j ty0 = ts.getD j ty0) :
    (∀ j, j < i → (T.set i t).getD j ty0 = A.getD j ty0) ∧ (T.set i t).getD i ty0 = t ∧ ∀ j, i < j → j < n → (T.set i t).getD j ty0 = ts.getD j ty0 := by
  refine ⟨fun j hj => ?_, ?_, fun j hj hn => ?_⟩
  · rw [tyD_set, if_neg (by omega)]; exact h1 j hj
  · rw [tyD_set, if_pos ⟨rfl, hl⟩]
  · rw [tyD_set, if_neg (by omega)]; exact h3 j hj hn
/-- rounds of the outer loop -/
def RaRel (g n : Nat) (W : World) (ts A : List Ty) (iv : Value) (wr : World) : Prop :=
  ∃ (i : Nat) (T : List Ty), i ≤ n ∧ iv = .int .i64 i ∧ Hid (RowH g n wr T) ∧ Hid (Below W.heap.size W wr) ∧ Hid ((∀ j, j < i → T.getD j ty0 = A.getD j ty0) ∧ ∀ j, i ≤ j → j < n → T.getD j ty0 = ts.getD j ty0)
/-- rounds of the inner loop -/
def RiRel (g n m i : Nat) (W : World) (ts A : List Ty) (l : List (Int × Int)) (kv : Value) (wr : World) : Prop :=
  ∃ (k : Nat) (T : List Ty), k ≤ m ∧ kv = .int .i64 k ∧ Hid (RowH g n wr T) ∧ Hid (Below W.heap.size W wr) ∧ Hid ((∀ j, j < i → T.getD j ty0 = A.getD j ty0) ∧ T.getD i ty0 = colT (l.take k) i (ts.getD i ty0) ∧ ∀ j, i < j → j < n → T.getD j ty0 = ts.getD j ty0)

set_option maxRecDepth 100000 in
set_option maxHeartbeats 16000000 in
theorem refapply_p (B : Nat) (ts : List Ty) (nv : Bool) (l : List (Int × Int)) (ea fa : Option Addr) (n m ec fc : Nat) (w : World) (hn : n = ts.length) (hn8 : n ≤ 1000) (hm : m = l.length) (hm2 : m ≤ 30000) (hok : ∀ t ∈ ts, HdT t) (hts : TyS w (Lo N0 w) (.slice ea n ec) ts) (hF : FaB B w (.slice fa m fc) l) :
    Calls Try.prog 22 #[.slice ea n ec, .agg #[.bool nv, .slice fa m fc]] w fun e w' => (∃ ga c, e = .returned (.slice ga n c) ∧ (n = 0 ∨ ∃ g, ga = some ⟨g, 0, none⟩ ∧ w.heap.size ≤ g ∧ RowH g n w' (applyT ts ⟨nv, l⟩))) ∧ Below w.heap.size w w' := by
  obtain ⟨i0, hi, hz0, hz1, hz2⟩ := info_parts Try.infoTy
  have key : ∃ rs, RawsOf w (Lo N0 w) rs ts ∧ ((n = 0 ∧ ea = none) ∨ ∃ a, ea = some a ∧ ∀ j u, (rawsCells rs)[j]? = some u → w.cell? (a.add j) = some u) := by
    rcases hts.inv with ⟨rfl, a, c, e⟩ | ⟨b, off, cap, rs, e, hb, hm, hr, ho⟩
    · cases ea with
      | none => exact ⟨[], RawsOf.none _ _, .inl ⟨hn, rfl⟩⟩
      | some ad => exact ⟨[], RawsOf.none _ _, .inr ⟨ad, rfl, fun j u h => by simp [rawsCells] at h⟩⟩
    · cases e
      exact ⟨rs, ho, .inr ⟨_, rfl, rows6_cell hr⟩⟩
  obtain ⟨rs, hraw, hcells⟩ := key
  have hone := rawsCells_one hraw
  have hlen : rs.length = n := by rw [hraw.1, hn]
  obtain ⟨W, hW⟩ : ∃ W, W = w.alloc (.cells #[.bool nv, .slice fa m fc] 36) := ⟨_, rfl⟩
  have HX := Lib.hid (show Bx W w.heap.size 36 #[.bool nv, .slice fa m fc] by rw [hW]; exact alloc_at rfl)
  have HL := Lib.hid (show Below w.heap.size w W by rw [hW]; exact (Below.refl _ _).alloc (Nat.le_refl _) _)
  have HSZ := Lib.hid (show W.heap.size = w.heap.size + 1 by rw [hW]; simp)
  have HC := Lib.hid (show ((n = 0 ∧ ea = none) ∨ ∃ a, ea = some a ∧ ∀ j u, (rawsCells rs)[j]? = some u → (W.alloc (.cells #[] 49)).cell? (a.add j) = some u) by
    rcases hcells with h | ⟨a, h, h2⟩
    · exact .inl h
    · exact .inr ⟨a, h, fun j u hj => Lib.cell?_alloc_some _ (by rw [hW]; exact Lib.cell?_alloc_some _ (h2 j u hj))⟩)
  have HRAW := Lib.hid hraw
  have HO := Lib.hid hone
  have HLEN := Lib.hid hlen
  have HN := Lib.hid hn
  have HM := Lib.hid hm
  have HOK := Lib.hid hok
  have HF := Lib.hid hF
  have b1 : (n : Int) ≤ 1000 := by omega
  have b2 : (m : Int) ≤ 30000 := by omega
  have HN8 := Lib.hid hn8
  have HW := Lib.hid hW
  clear hn hm hok hts hF hW hraw hcells hone hlen
  go_enter Try.func22, Try.ntmps22
  go_upto_region 1 with fail
  rw [← HW.out]
  go_wp2_with (at_builtin; refine wpl_append_gen _ rfl _ _ 46 rfl W.heap.size 49 i0 (.agg #[.bool false, .int .i64 0, .int .i64 0, .slice none 0 0, .int .i64 0, .slice none 0 0]) 6 80 Try.underlying46 hi hz0 hz1 hz2 rfl (by decide) _ 0 [] rfl (World.ownsRow_made W #[] 0 (Nat.le_refl _) (Nat.zero_le _) rfl) ea n ec (rawsCells rs) rfl ?qc1 HC.out HO.out ?qc4 ?qc5 ?qc6 ?_)
  case qc1 => rw [rawsCells_len, HLEN.out]
  case qc4 => have := HN8.out; unfold maxLen; omega
  case qc5 => have := HN8.out; omega
  case qc6 => simp
  intro v' w1 hown hgrow
  have hb1 : Below W.heap.size W w1 := ((Below.refl _ W).alloc (Nat.le_refl _) _).grown hgrow (by simp) (by intro k hk; simp [Value.ownBlock] at hk; omega)
  have hown2 : w1.ownsRow W.heap.size 49 6 v' n (rawsCells rs) := by simpa using hown
  have HB1 := Lib.hid hb1
  clear hown hgrow
  by_cases h0 : n = 0
  · subst h0
    obtain ⟨ga, c, rfl⟩ : ∃ ga c, v' = .slice ga 0 c := by
      rcases hown2.2 with ⟨e, _⟩ | ⟨g, cap, cur, e, _⟩
      · exact ⟨_, _, e⟩
      · exact ⟨_, _, e⟩
    clear hown2 hb1
    go_wp2
    go_loopw [6] (fun iv wr => iv = .int .i64 0 ∧ Hid (Below W.heap.size W wr)) (fun _ _ => 0)
    case atStart => exact ⟨rfl, HB1⟩
    case round =>
      obtain ⟨rfl, HBR⟩ := hrel
      go_wp2
      refine bodyPost_ret (v := .slice ga 0 c) ?_ ?_ ?_
      · simp [results, Try.results22, go_sem]
      · rfl
      · exact ⟨⟨ga, c, rfl⟩, HL.out.trans (HBR.out.mono HL.out.size)⟩
  · obtain ⟨g, cap, cur, rfl, hg1, hg, hnc, hcm, hcs, ht⟩ : ∃ g cap cur, v' = .slice (some ⟨g, 0, none⟩) n cap ∧ W.heap.size ≤ g ∧ w1.heap[g]? = some (.cells cur 49 (0, 0)) ∧ n ≤ cap ∧ cap ≤ maxLen ∧ cur.size = cap * 6 ∧ cur.toList.take (n * 6) = rawsCells rs := by
      rcases hown2.2 with ⟨_, e⟩ | h
      · exact absurd e h0
      · exact h
    have HR0 := Lib.hid (show RowH g n w1 ts from ⟨HN.out.symm, Nat.le_trans hnc hcm, rs, cur, hg, ht, HRAW.out.mono (fun b h => ⟨Nat.lt_of_lt_of_le h.1 (Nat.le_trans HL.out.size hb1.size), by have h1 := h.1; have h2 := HSZ.out; omega⟩) fun b o h => (hb1.cell (p := ⟨b, o, none⟩) (Nat.lt_of_lt_of_le h.1 HL.out.size)).trans (HL.out.cell (p := ⟨b, o, none⟩) h.1)⟩)
    have HGW := Lib.hid hg1
    have HLT := Lib.hid (show w.heap.size < W.heap.size by rw [HSZ.out]; exact Nat.lt_succ_self _)
    clear hown2 hb1 hg hnc hcm hcs ht hg1
    go_wp2
    go_loopw [6] (fun iv wr => RaRel g n W ts (applyT ts ⟨nv, l⟩) iv wr) (fun iv _ => n - (intOf iv).toNat)
    case atStart => exact ⟨0, ts, Nat.zero_le _, rfl, HR0, HB1, Lib.hid ⟨fun j h => absurd h (Nat.not_lt_zero _), fun _ _ _ => rfl⟩⟩
    case round =>
      obtain ⟨i, T, hi1, rfl, HR, HB, HT⟩ := hrel
      have px1 : wr.cell? ⟨w.heap.size, 1, none⟩ = some (.slice fa m fc) := (HX.out.keep HB.out).c1
      by_cases hlt : i < n
      · have hi0 : (0 : Int) ≤ (i : Int) := Int.natCast_nonneg _
        have hi2 : (i : Int) < (n : Int) := by omega
        have hil : i < ts.length := by rw [← HN.out]; exact hlt
        have HI0 := Lib.hid (show RiRel g n m i W ts (applyT ts ⟨nv, l⟩) l (.int .i64 0) wr from ⟨0, T, Nat.zero_le _, rfl, HR, HB, Lib.hid ⟨HT.out.1, HT.out.2 i (Nat.le_refl _) hlt, fun j h1 h2 => HT.out.2 j (by omega) h2⟩⟩)
        clear HR HB HT px1
        go_wp2
        go_loopw [7] (fun kv wx => RiRel g n m i W ts (applyT ts ⟨nv, l⟩) l kv wx) (fun kv _ => m - (intOf kv).toNat)
        case atStart => exact HI0.out
        case round =>
          clear T HI0
          obtain ⟨k, T, hk1, rfl, HR, HB, HT⟩ := hrel
          have HXK := Lib.hid (HX.out.keep HB.out)
          have px0 : wr.cell? ⟨w.heap.size, 0, none⟩ = some (.bool nv) := HXK.out.c0
          have px1 : wr.cell? ⟨w.heap.size, 1, none⟩ = some (.slice fa m fc) := HXK.out.c1
          have HTL := Lib.hid (show i < T.length by rw [HR.out.1]; exact hlt)
          by_cases hkt : k < m
          · have hkl : k < l.length := by rw [← HM.out]; exact hkt
            have HBX := Lib.hid (HL.out.trans (HB.out.mono HL.out.size))
            obtain ⟨q, off, rfl, _, hq2, hc0, hc1⟩ := HF.out.get hkl
            obtain ⟨x, hx⟩ : ∃ x, (l.getD k fa0).1 = x := ⟨_, rfl⟩
            obtain ⟨y, hy⟩ : ∃ y, (l.getD k fa0).2 = y := ⟨_, rfl⟩
            rw [hx] at hc0
            rw [hy] at hc1
            have hci : wr.cell? ⟨q, off + k * 2, none⟩ = some (.int .i64 x) := (HBX.out.cell (p := ⟨q, _, none⟩) hq2).trans hc0
            have hcj : wr.cell? ⟨q, off + k * 2 + 1, none⟩ = some (.int .i64 y) := (HBX.out.cell (p := ⟨q, _, none⟩) hq2).trans hc1
            have HXX := Lib.hid hx
            have HYY := Lib.hid hy
            have HQ := Lib.hid hq2
            have hl0 : (0 : Int) ≤ (k : Int) := Int.natCast_nonneg _
            have hl1 : (k : Int) < (m : Int) := by omega
            clear hx hy hc0 hc1 hq2
            by_cases hxi : x = (i : Int)
            · subst hxi
              go_upto_region 9 with fail
              have hba : Below wr.heap.size wr wr.drew := (Below.refl _ _).drew
              replace HR := Lib.hid (HR.out.keep hba)
              replace HB := Lib.hid (HB.out.trans (hba.mono HB.out.size))
              replace HXK := Lib.hid (HXK.out.keep hba)
              have z0 := HXK.out.c1
              have z1 : wr.drew.cell? ⟨q, off + k * 2 + 1, none⟩ = some (.int .i64 y) := hcj
              have HNE := Lib.hid (show w.heap.size ≠ g by have := HLT.out; have := HGW.out; omega)
              have HNQ := Lib.hid (show q ≠ g by have := HLT.out; have := HGW.out; have := HQ.out; omega)
              have HQW := Lib.hid (show q < wr.drew.heap.size by have h1 := HQ.out; have h2 := HXK.out.lt; omega)
              obtain ⟨a, f, p, pa, np, pc, kk, ga, nf, gc, d0, d1, d2, d3, d4, d5, _, hv0⟩ := HR.out.get hlt
              have HV0 := Lib.hid hv0
              have HTD := Lib.hid (show HdT (T.getD i ty0) by rw [HT.out.2.1]; exact col_hd _ _ _ (getD_hd HOK.out hil))
              clear hba hv0 hci hcj px0 px1
              (try dsimp only [List.append])
              refine wp_region_noPanic ?_
              refine wp_region_held_drew (S := (fun w' => w'.cell? ⟨w.heap.size, 1, none⟩ = some (.slice (some ⟨q, off, none⟩) m fc) ∧ w'.cell? ⟨q, off + k * 2 + 1, none⟩ = some (.int .i64 y))) (by kernel_rfl) (by (try dsimp only); exact ⟨z0, z1⟩) (fun hHeld => ?_)
              generalize wr.drew = wd at hHeld HR HB HXK z0 z1 HQW HV0 d0 d1 d2 d3 d4 d5 ⊢
              refine' tk_any 0 32 (v := _) ?hi43001 ?hd43001 (by kernel_rfl) (by kernel_rfl) (by kernel_rfl) (fun _ _ _ h => h) ?hy43001 hHeld ?hr43001
              case hi43001 => (simp only [List.getElem?_toArray, List.getElem?_cons_zero]; rfl)
              case hd43001 => rfl
              case hy43001 =>
                refine' Or.inl ⟨?hw43001, ?hx43001⟩
                case hw43001 => rfl
                case hx43001 => (intro w hSw; (try dsimp only at hSw); go_simp; (try with_reducible rfl))
              (try simp only [Act.put, List.setIfInBounds_toArray, List.set_cons_zero, List.set_cons_succ])
              refine' tk_any 1 33 (v := _) ?hi43002 ?hd43002 (by kernel_rfl) (by kernel_rfl) (by kernel_rfl) (fun _ _ _ h => h) ?hy43002 hHeld ?hr43002
              case hi43002 => (simp only [List.getElem?_toArray, List.getElem?_cons_succ, List.getElem?_cons_zero]; rfl)
              case hd43002 => rfl
              case hy43002 =>
                refine' Or.inl ⟨?hw43002, ?hx43002⟩
                case hw43002 => rfl
                case hx43002 => (intro w hSw; (try dsimp only at hSw); go_simp; (try with_reducible rfl))
              (try simp only [Act.put, List.setIfInBounds_toArray, List.set_cons_zero, List.set_cons_succ])
              refine' tk_any 2 34 (v := _) ?hi43003 ?hd43003 (by kernel_rfl) (by kernel_rfl) (by kernel_rfl) (fun _ _ _ h => h) ?hy43003 hHeld ?hr43003
              case hi43003 => (simp only [List.getElem?_toArray, List.getElem?_cons_succ, List.getElem?_cons_zero]; rfl)
              case hd43003 => rfl
              case hy43003 =>
                refine' Or.inl ⟨?hw43003, ?hx43003⟩
                case hw43003 => rfl
                case hx43003 => (intro w hSw; (try dsimp only at hSw); go_simp; (try with_reducible rfl))
              (try simp only [Act.put, List.setIfInBounds_toArray, List.set_cons_zero, List.set_cons_succ])
              refine' tk_any 3 35 (v := _) ?hi43004 ?hd43004 (by kernel_rfl) (by kernel_rfl) (by kernel_rfl) (fun _ _ _ h => h) ?hy43004 hHeld ?hr43004
              case hi43004 => (simp only [List.getElem?_toArray, List.getElem?_cons_succ, List.getElem?_cons_zero]; rfl)
              case hd43004 => rfl
              case hy43004 =>
                refine' Or.inl ⟨?hw43004, ?hx43004⟩
                case hw43004 => rfl
                case hx43004 => (intro w hSw; (try dsimp only at hSw); go_simp; (try with_reducible rfl))
              (try simp only [Act.put, List.setIfInBounds_toArray, List.set_cons_zero, List.set_cons_succ])
              refine' tk_any 4 36 (v := _) ?hi43005 ?hd43005 (by kernel_rfl) (by kernel_rfl) (by kernel_rfl) (fun _ _ _ h => h) ?hy43005 hHeld ?hr43005
              case hi43005 => (simp only [List.getElem?_toArray, List.getElem?_cons_succ, List.getElem?_cons_zero]; rfl)
              case hd43005 => rfl
              case hy43005 =>
                refine' Or.inl ⟨?hw43005, ?hx43005⟩
                case hw43005 => rfl
                case hx43005 => (intro w hSw; (try dsimp only at hSw); go_simp; (try with_reducible rfl))
              (try simp only [Act.put, List.setIfInBounds_toArray, List.set_cons_zero, List.set_cons_succ])
              refine' tk_any 6 38 (v := _) ?hi43006 ?hd43006 (by kernel_rfl) (by kernel_rfl) (by kernel_rfl) (fun _ _ _ h => h) ?hy43006 hHeld ?hr43006
              case hi43006 => (simp only [List.getElem?_toArray, List.getElem?_cons_succ, List.getElem?_cons_zero]; rfl)
              case hd43006 => rfl
              case hy43006 =>
                refine' Or.inl ⟨?hw43006, ?hx43006⟩
                case hw43006 => rfl
                case hx43006 => (intro w hSw; (try dsimp only at hSw); go_simp; (try with_reducible rfl))
              (try simp only [Act.put, List.setIfInBounds_toArray, List.set_cons_zero, List.set_cons_succ])
              refine' tk_any 7 39 (v := _) ?hi43007 ?hd43007 (by kernel_rfl) (by kernel_rfl) (by kernel_rfl) (fun _ _ _ h => h) ?hy43007 hHeld ?hr43007
              case hi43007 => (simp only [List.getElem?_toArray, List.getElem?_cons_succ, List.getElem?_cons_zero]; rfl)
              case hd43007 => rfl
              case hy43007 =>
                refine' Or.inl ⟨?hw43007, ?hx43007⟩
                case hw43007 => rfl
                case hx43007 => (intro w hSw; (try dsimp only at hSw); go_simp; (try with_reducible rfl))
              (try simp only [Act.put, List.setIfInBounds_toArray, List.set_cons_zero, List.set_cons_succ])
              refine' tk_any 8 40 (v := _) ?hi43008 ?hd43008 (by kernel_rfl) (by kernel_rfl) (by kernel_rfl) (fun _ _ _ h => h) ?hy43008 hHeld ?hr43008
              case hi43008 => (simp only [List.getElem?_toArray, List.getElem?_cons_succ, List.getElem?_cons_zero]; rfl)
              case hd43008 => rfl
              case hy43008 =>
                refine' Or.inl ⟨?hw43008, ?hx43008⟩
                case hw43008 => rfl
                case hx43008 => (intro w hSw; (try dsimp only at hSw); go_simp; (try with_reducible rfl))
              (try simp only [Act.put, List.setIfInBounds_toArray, List.set_cons_zero, List.set_cons_succ])
              refine' tk_any 9 41 (v := _) ?hi43009 ?hd43009 (by kernel_rfl) (by kernel_rfl) (by kernel_rfl) (fun _ _ _ h => h) ?hy43009 hHeld ?hr43009
              case hi43009 => (simp only [List.getElem?_toArray, List.getElem?_cons_succ, List.getElem?_cons_zero]; rfl)
              case hd43009 => rfl
              case hy43009 =>
                refine' Or.inl ⟨?hw43009, ?hx43009⟩
                case hw43009 => rfl
                case hx43009 => (intro w hSw; (try dsimp only at hSw); go_simp; (try with_reducible rfl))
              (try simp only [Act.put, List.setIfInBounds_toArray, List.set_cons_zero, List.set_cons_succ])
              refine' tk_any 10 42 (v := _) ?hi43010 ?hd43010 (by kernel_rfl) (by kernel_rfl) (by kernel_rfl) (fun _ _ _ h => h) ?hy43010 hHeld ?hr43010
              case hi43010 => (simp only [List.getElem?_toArray, List.getElem?_cons_succ, List.getElem?_cons_zero]; rfl)
              case hd43010 => rfl
              case hy43010 =>
                refine' Or.inl ⟨?hw43010, ?hx43010⟩
                case hw43010 => rfl
                case hx43010 => (intro w hSw; (try dsimp only at hSw); go_simp; (try with_reducible rfl))
              (try simp only [Act.put, List.setIfInBounds_toArray, List.set_cons_zero, List.set_cons_succ])
              refine' tk_any 11 43 (v := _) ?hi43011 ?hd43011 (by kernel_rfl) (by kernel_rfl) (by kernel_rfl) (fun _ _ _ h => h) ?hy43011 hHeld ?hr43011
              case hi43011 => (simp only [List.getElem?_toArray, List.getElem?_cons_succ, List.getElem?_cons_zero]; rfl)
              case hd43011 => rfl
              case hy43011 =>
                refine' Or.inl ⟨?hw43011, ?hx43011⟩
                case hw43011 => rfl
                case hx43011 => (intro w hSw; (try dsimp only at hSw); go_simp; (try with_reducible rfl))
              (try simp only [Act.put, List.setIfInBounds_toArray, List.set_cons_zero, List.set_cons_succ])
              refine' tk_call 5 ?hi43012 (by kernel_rfl) ?hr43012
              case hi43012 => (simp only [List.getElem?_toArray, List.getElem?_cons_succ, List.getElem?_cons_zero]; rfl)
              intro K hK
              go_simp
              clear hHeld
              refine hK.out _ _ (by (try dsimp only); exact ⟨z0, z1⟩) (fun hHeld => ?_)
              clear hK K
              (try simp only [Act.put, List.setIfInBounds_toArray, List.set_cons_zero, List.set_cons_succ])
              refine' tk_call 12 ?hi43013 (by kernel_rfl) ?hr43013
              case hi43013 => (simp only [List.getElem?_toArray, List.getElem?_cons_succ, List.getElem?_cons_zero]; rfl)
              intro K hK
              go_simp
              go_at_call 25
              refine (refkeep_p (· = g) (T.getD i ty0) y _ wd (fun b hb => by rw [hb]; exact HR.out.lt) HTD.out HV0.out).mono ?_
              rintro e w2 ⟨⟨v, rfl, hv2⟩, hb2⟩
              obtain ⟨a2, f2, p2, pa2, np2, pc2, k2, ga2, nf2, gc2, rfl⟩ := TyVN.shape hv2
              have y0 := (HXK.out.keep hb2).c1
              have y1 := (hb2.cell (p := ⟨q, off + k * 2 + 1, none⟩) HQW.out).trans z1
              replace HR := Lib.hid (HR.out.keep hb2)
              replace HB := Lib.hid (HB.out.trans (hb2.mono HB.out.size))
              have HV2 := Lib.hid hv2
              clear d0 d1 d2 d3 d4 d5 z0 z1
              obtain ⟨a', f', p', pa', pn', pc', k', fa', fn', fc', d0, d1, d2, d3, d4, d5, hfr, _⟩ := HR.out.get hlt
              have q0 := hfr (i * 6)
              have q1 := hfr (i * 6 + 1)
              have q2 := hfr (i * 6 + 2)
              have q3 := hfr (i * 6 + 3)
              have q4 := hfr (i * 6 + 4)
              have q5 := hfr (i * 6 + 5)
              clear hb2 hv2 hfr
              go_wp2_with fail
              clear hHeld
              refine hK.out _ _ (by (try dsimp only); exact ⟨y0, y1⟩) (fun hHeld => ?_)
              clear hK K
              (try simp only [Act.put, List.setIfInBounds_toArray, List.set_cons_zero, List.set_cons_succ])
              refine' tk_any 13 45 (v := _) ?hi43014 ?hd43014 (by kernel_rfl) (by kernel_rfl) (by kernel_rfl) (fun _ _ _ h => h) ?hy43014 hHeld ?hr43014
              case hi43014 => (simp only [List.getElem?_toArray, List.getElem?_cons_succ, List.getElem?_cons_zero]; rfl)
              case hd43014 => rfl
              case hy43014 =>
                refine' Or.inl ⟨?hw43014, ?hx43014⟩
                case hw43014 => rfl
                case hx43014 => (intro w hSw; (try dsimp only at hSw); go_simp; (try with_reducible rfl))
              (try simp only [Act.put, List.setIfInBounds_toArray, List.set_cons_zero, List.set_cons_succ])
              refine' tk_call 14 ?hi43015 (by kernel_rfl) ?hr43015
              case hi43015 => (simp only [List.getElem?_toArray, List.getElem?_cons_succ, List.getElem?_cons_zero]; rfl)
              intro K hK
              go_simp
              clear hHeld
              refine hK.out _ _ (by (try dsimp only); exact ⟨set_blk HNE.out (set_blk HNE.out (set_blk HNE.out (set_blk HNE.out (set_blk HNE.out (set_blk HNE.out (y0)))))), set_blk HNQ.out (set_blk HNQ.out (set_blk HNQ.out (set_blk HNQ.out (set_blk HNQ.out (set_blk HNQ.out (y1))))))⟩) (fun hHeld => ?_)
              clear hK K
              (try simp only [Act.put, List.setIfInBounds_toArray, List.set_cons_zero, List.set_cons_succ])
              refine wpAnyH_done (by kernel_rfl) ?_ _
              refine NoPanic.normal ?_
              have HZ := Lib.hid (ri_set (keepT (T.getD i ty0) (lowN y)) HTL.out HT.out.1 HT.out.2.2)
              go_wp2
              refine ⟨⟨k + 1, T.set i (keepT (T.getD i ty0) (lowN y)), hkt, by go_num, Lib.hid ?_, Lib.hid ?_, Lib.hid ⟨HZ.out.1, ?_, HZ.out.2.2⟩⟩, by simp [intOf]; omega⟩
              · exact HR.out.set hlt HV2.out
              · exact (((((HB.out.setCell HGW.out _).setCell HGW.out _).setCell HGW.out _).setCell HGW.out _).setCell HGW.out _).setCell HGW.out _
              · rw [HZ.out.2.1, col_snoc l i k _ hkl HXX.out HYY.out, if_pos rfl, HT.out.2.1]
            · go_wp2
              refine ⟨⟨k + 1, T, hkt, by go_num, HR, HB, Lib.hid ⟨HT.out.1, ?_, HT.out.2.2⟩⟩, by simp [intOf]; omega⟩
              rw [col_snoc l i k _ hkl HXX.out HYY.out, if_neg hxi]; exact HT.out.2.1
          · have hkm : k = m := by omega
            have HCT := Lib.hid (show T.getD i ty0 = colT l i (ts.getD i ty0) by have h := HT.out.2.1; rw [hkm, HM.out, List.take_length] at h; exact h)
            cases nv with
            | false =>
              go_wp2
              refine ⟨⟨i + 1, T, hlt, by go_num, HR, HB, Lib.hid (ra_next HT.out.1 ?_ HT.out.2.2)⟩, by simp [intOf]; omega⟩
              rw [apply_at ts false l i hil, HCT.out]; rfl
            | true =>
              obtain ⟨a', f', p', pa', pn', pc', k', fa', fn', fc', d0, d1, d2, d3, d4, d5, hfr, _⟩ := HR.out.get hlt
              have q0 := hfr (i * 6)
              have q1 := hfr (i * 6 + 1)
              have q2 := hfr (i * 6 + 2)
              have q3 := hfr (i * 6 + 3)
              have q4 := hfr (i * 6 + 4)
              have q5 := hfr (i * 6 + 5)
              clear hfr
              have HZ := Lib.hid (ri_set ty0 HTL.out HT.out.1 HT.out.2.2)
              go_wp2
              refine ⟨⟨i + 1, T.set i ty0, hlt, by go_num, Lib.hid ?_, Lib.hid ?_, Lib.hid (ra_next HZ.out.1 ?_ HZ.out.2.2)⟩, by simp [intOf]; omega⟩
              · exact HR.out.set hlt (ty0_v _ _)
              · exact (((((HB.out.setCell HGW.out _).setCell HGW.out _).setCell HGW.out _).setCell HGW.out _).setCell HGW.out _).setCell HGW.out _
              · rw [apply_at ts true l i hil, HZ.out.2.1]; rfl
      · have hin : i = n := by omega
        have HTA := Lib.hid (show RowH g n wr (applyT ts ⟨nv, l⟩) by
          have e : T = applyT ts ⟨nv, l⟩ := list_ext (by rw [HR.out.1, apply_len, HN.out]) fun j hj => HT.out.1 j (by rw [hin, ← HR.out.1]; exact hj)
          rw [← e]; exact HR.out)
        have HBZ := Lib.hid (HL.out.trans (HB.out.mono HL.out.size))
        go_wp2
        refine bodyPost_ret (v := .slice (some ⟨g, 0, none⟩) n cap) ?_ ?_ ?_
        · simp [results, Try.results22, go_sem]
        · rfl
        · exact ⟨⟨_, _, rfl, .inr ⟨g, rfl, Nat.le_trans HL.out.size HGW.out, HTA.out⟩⟩, HBZ.out⟩
end Go.Proofs.Ytgjkobkcmgliaaa
