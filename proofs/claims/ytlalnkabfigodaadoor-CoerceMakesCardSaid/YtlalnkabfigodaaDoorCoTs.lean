import Derived.Test.YtlalnkabfigodaaDoorCoF
namespace Go.Proofs.YtlalnkabfigodaaDoor
open Go.RowKit

theorem sumS_stop7 (n : Nat) : ∀ (l : List Ty) (a : Nat), 1000 ≤ a → sumS n a l = a
 | [], a, _ => rfl
 | d :: r, a, h => by rw [sumS_cons, if_neg (by omega)]; exact sumS_stop7 n r a h
theorem sumS_exact7 (n : Nat) (ih : ∀ t : Ty, sizeS n t < 1000 → sizeS n t = szT t) : ∀ (l : List Ty) (a : Nat), sumS n a l < 1000 → sumS n a l = a + szTs l
 | [], a, _ => by rw [sumS_nil, szTs]; omega
 | d :: r, a, h => by
  rw [sumS_cons] at h ⊢
  by_cases ha : a < 1000
  ·
   rw [if_pos ha] at h ⊢
   have h1 := sumS_exact7 n ih r _ h
   have h2 : sizeS n d < 1000 := by omega
   rw [h1, ih d h2, szTs]; omega
  ·
   rw [if_neg ha] at h
   have := sumS_stop7 n r a (by omega)
   omega
theorem sizeS_exact7 : ∀ (n : Nat) (t : Ty), sizeS n t < 1000 → sizeS n t = szT t
 | 0, t, h => absurd h (by show ¬ (1000 < 1000); omega)
 | n + 1, t, h => by
  rw [sizeS_succ] at h ⊢
  have h1 : sumS n (sumS n 1 t.pairs) t.funs < 1000 := by omega
  have h2 := sumS_exact7 n (sizeS_exact7 n) _ _ h1
  have h3 : sumS n 1 t.pairs < 1000 := by omega
  have h4 := sumS_exact7 n (sizeS_exact7 n) _ _ h3
  have h5 := szT_eq t
  omega
theorem right7 {t : Ty} (h : rightT t = true) : szT t ≤ 300 ∧ deepF 20 t = true := by
 unfold rightT at h
 rw [Bool.and_eq_true, decide_eq_true_iff] at h
 exact ⟨by rw [← sizeS_exact7 60 t (by omega)]; exact h.1, h.2⟩
theorem szCs_le_szTs : ∀ (F : List Co) (T : List Ty), F.length = T.length → (∀ j, j < F.length → szC (F.getD j co0) ≤ szT (T.getD j ty0)) → szCs F ≤ szTs T
 | [], [], _, _ => Nat.le_refl _
 | c :: F, t :: T, hl, h => by
  have h0 := h 0 (by simp)
  have h1 := szCs_le_szTs F T (by simpa using hl) fun j hj => by have := h (j + 1) (by simpa using hj); simpa using this
  simp only [List.getD_cons_zero] at h0
  simp only [szCs, szTs]; omega
theorem szCs_map (g : Ty → Co) (T : List Ty) (h : ∀ x ∈ T, szC (g x) ≤ szT x) : szCs (T.map g) ≤ szTs T := by
 refine szCs_le_szTs _ _ (by simp) fun j hj => ?_
 rw [List.length_map] at hj
 have e : (T.map g).getD j co0 = g (T.getD j ty0) := by simp [List.getD_eq_getElem?_getD, hj]
 rw [e]
 exact h _ (getT_mem hj)
theorem szCs_funs (g1 g2 : Ty → Co) (T : List Ty) (hl : 1 ≤ T.length) (h1 : ∀ x ∈ T, szC (g1 x) ≤ szT x) (h2 : ∀ x ∈ T, szC (g2 x) ≤ szT x) : szCs (((List.range (T.length - 1)).map fun i => g1 (T.getD i ty0)) ++ [g2 (T.getD (T.length - 1) ty0)]) ≤ szTs T := by
 refine szCs_le_szTs _ _ (by simp; omega) fun j hj => ?_
 simp only [List.length_append, List.length_map, List.length_range, List.length_cons, List.length_nil] at hj
 by_cases e : j < T.length - 1
 ·
  have e1 : (((List.range (T.length - 1)).map fun i => g1 (T.getD i ty0)) ++ [g2 (T.getD (T.length - 1) ty0)]).getD j co0 = g1 (T.getD j ty0) := by
   rw [List.getD_eq_getElem?_getD, List.getElem?_append_left (by simpa using e)]
   simp [e]
  rw [e1]
  exact h1 _ (getT_mem (by omega))
 ·
  obtain rfl : j = T.length - 1 := by omega
  have e1 : (((List.range (T.length - 1)).map fun i => g1 (T.getD i ty0)) ++ [g2 (T.getD (T.length - 1) ty0)]).getD (T.length - 1) co0 = g2 (T.getD (T.length - 1) ty0) := by
   rw [List.getD_eq_getElem?_getD, List.getElem?_append_right (by simp)]
   simp
  rw [e1]
  exact h2 _ (getT_mem (by omega))
theorem szCs_if (p : Prop) [Decidable p] (l : List Co) : szCs (if p then [] else l) ≤ szCs l := by
 split
 ·
  exact Nat.zero_le _
 ·
  exact Nat.le_refl _
theorem goC_size : ∀ (n : Nat) (b : Bool) (t : Ty) (l : Int), deepF n t = true → szC (goC n b t l) ≤ szT t
 | 0, _, _, _, h => by cases h
 | n + 1, b, t, l, h => by
  rw [deepF_succ, Bool.and_eq_true, Bool.and_eq_true, List.all_eq_true, List.all_eq_true] at h
  obtain ⟨⟨hh, hp⟩, hf⟩ := h
  unfold headOK at hh
  rw [decide_eq_true_eq] at hh
  have hk := hh.2.2.2.2.2.2.2.2.2
  have ep := fun b => szCs_map (fun x => goC n b x l) t.pairs fun x hx => goC_size n b x l (hp x hx)
  have ef := fun b (h1 : t.fn = 1) => szCs_funs (fun x => goC n (!b) x l) (fun x => goC n b x l) t.funs (hk h1).1 (fun x hx => goC_size n (!b) x l (hf x hx)) (fun x hx => goC_size n b x l (hf x hx))
  have key : ∀ (F : List Co), (t.fn = 1 → szCs F ≤ szTs t.funs) → ∀ q : Prop, ∀ [Decidable q], szCs (if t.fn = 1 then (if q then [] else F) else []) ≤ szTs t.funs := fun F hF q _ => by
   split
   ·
    exact Nat.le_trans (szCs_if _ _) (hF (by assumption))
   ·
    exact Nat.zero_le _
  rw [szT_eq]
  cases b with
  | true =>
   rw [goC]
   split
   ·
    show 1 + 0 + 0 ≤ _; omega
   ·
    have h1 := ep true
    have h2 := key _ (ef true) (allC (((List.range (t.funs.length - 1)).map fun i => goC n false (t.funs.getD i ty0) l) ++ [goC n true (t.funs.getD (t.funs.length - 1) ty0) l]) = true)
    have h3 := szCs_if (t.pair = 0 ∨ t.pair = 1 ∧ allC (t.pairs.map fun x => goC n true x l) = true) (t.pairs.map fun x => goC n true x l)
    simp only [Bool.not_true] at h2
    simp only [szC]
    omega
  | false =>
   rw [goC]
   have h1 := ep false
   have h2 := key _ (ef false) (allC (((List.range (t.funs.length - 1)).map fun i => goC n true (t.funs.getD i ty0) l) ++ [goC n false (t.funs.getD (t.funs.length - 1) ty0) l]) = true)
   have h3 := szCs_if (t.pair = 0 ∨ allC (t.pairs.map fun x => goC n false x l) = true) (t.pairs.map fun x => goC n false x l)
   simp only [Bool.not_false] at h2
   simp only [szC]
   omega
theorem bit_all2 : ∀ f : Fin 64, ∀ i : Fin 6, (bits .and .i64 (f.val : Int) ((2 ^ i.val : Nat) : Int) == 0) = decide (((f.val : Int).tdiv ((2 ^ i.val : Nat) : Int)).tmod 2 = 0) := by decide +kernel
theorem bit_two {f : Int} (h : 0 ≤ f ∧ f ≤ 63) (i : Nat) (hi : i < 6) : (bits .and .i64 f ((2 ^ i : Nat) : Int) == 0) = decide ((f.tdiv ((2 ^ i : Nat) : Int)).tmod 2 = 0) := by
 have := bit_all2 ⟨f.toNat, by omega⟩ ⟨i, hi⟩
 rwa [show ((f.toNat : Nat) : Int) = f by omega] at this
/-- the tags -/
def isTag (tag : Int) : Prop := tag = 1 ∨ tag = 2 ∨ tag = 4 ∨ tag = 8 ∨ tag = 16 ∨ tag = 32 ∨ tag = 64 ∨ tag = 128
theorem first_none (c : Co) {tag : Int} (h : ¬ isTag tag) : firstC c tag = 0 := by
 unfold isTag at h
 unfold firstC
 rw [if_neg (fun e => h (by omega)), if_neg (fun e => h (by omega)), if_neg (fun e => h (by omega)), if_neg (fun e => h (by omega)), if_neg (fun e => h (by omega)), if_neg (fun e => h (by omega)), if_neg (fun e => h (by omega)), if_neg (fun e => h (by omega))]
end Go.Proofs.YtlalnkabfigodaaDoor
