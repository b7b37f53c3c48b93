import Derived.Test.YtgjkobkcmgliaaaTyP
namespace Go.Proofs.Ytgjkobkcmgliaaa
open Go.RowKit

theorem headP {t : Ty} (h : okTy t) : 0 ≤ t.flat ∧ t.flat ≤ 63 ∧ 0 ≤ t.pair ∧ t.pair ≤ 2 ∧ 0 ≤ t.fn ∧ t.fn ≤ 2 ∧ (t.all = true → t.flat = 0 ∧ t.pair = 0 ∧ t.fn = 0) ∧
    (t.pairs.length : Int) = (if t.pair = 1 then 2 else if t.pair = 2 then 1 else 0) ∧ (t.fn ≠ 1 → t.funs.length = 0) ∧ (t.fn = 1 → 1 ≤ t.funs.length ∧ t.funs.length ≤ 9) := of_decide_eq_true h.head
theorem carS {t : Ty} (h : okTy t) (ha : t.all = false) (hp : t.pair ≠ 0) : szT (carT t) < szT t ∧ okTy (carT t) := by
  have hh := headP h
  have hl : 0 < t.pairs.length := by
    have := hh.2.2.2.2.2.2.2.1
    split at this
    · omega
    · split at this <;> omega
  unfold carT
  rw [ha, if_neg (by simp), if_neg (by omega)]
  exact ⟨szT_pair t 0 hl, h.pair (getT_mem hl)⟩
theorem listOK {t : Ty} (h : okTy t) : okTy (listT t) := by
  refine okTy.mk ?_ (fun x hx => ?_) (fun x hx => by simp [listT, Ty.funs] at hx)
  · simp [headOK, listT, Ty.flat, Ty.pair, Ty.fn, Ty.all, Ty.pairs, Ty.funs]
  · have : x = t := by simpa [listT, Ty.pairs] using hx
    rw [this]; exact h
theorem cdrS {t : Ty} (h : okTy t) (ha : t.all = false) (hp : t.pair ≠ 0) : szT (cdrT t) ≤ szT t ∧ (t.pair = 1 → szT (cdrT t) < szT t) ∧ okTy (cdrT t) := by
  have hh := headP h
  have hl := hh.2.2.2.2.2.2.2.1
  unfold cdrT
  rw [ha, if_neg (by simp)]
  by_cases h2 : t.pair = 2
  · rw [if_neg (by omega), if_pos h2] at hl
    have hl0 : 0 < t.pairs.length := by omega
    rw [if_pos ⟨h2, hl0⟩, szT_list]
    have hsz := szT_pair t 0 hl0
    refine ⟨by omega, by omega, listOK (h.pair (getT_mem hl0))⟩
  · have h1 : t.pair = 1 := by omega
    rw [if_pos h1] at hl
    have hl1 : 1 < t.pairs.length := by omega
    rw [if_neg (by omega), if_pos ⟨h1, hl1⟩]
    have hsz := szT_pair t 1 hl1
    refine ⟨by omega, fun _ => hsz, h.pair (getT_mem hl1)⟩
/-- for a type of lists: the cdr is the type of lists of the car -/
theorem cdr_list {t : Ty} (h : okTy t) (ha : t.all = false) (h2 : t.pair = 2) : cdrT t = listT (carT t) := by
  have hl := (headP h).2.2.2.2.2.2.2.1
  rw [if_neg (by omega), if_pos h2] at hl
  have hl0 : 0 < t.pairs.length := by omega
  unfold cdrT carT
  rw [ha, if_neg (by simp), if_pos ⟨h2, hl0⟩, if_neg (by simp), if_neg (by omega)]
theorem all_range_congr {n : Nat} {f g : Nat → Bool} (h : ∀ i, i < n → f i = g i) : (List.range n).all f = (List.range n).all g := by
  rw [Bool.eq_iff_iff, List.all_eq_true, List.all_eq_true]
  constructor
  · intro h1 i hi; rw [← h i (List.mem_range.1 hi)]; exact h1 i hi
  · intro h1 i hi; rw [h i (List.mem_range.1 hi)]; exact h1 i hi
/-- steps enough: the same -/
theorem subF_more : ∀ (n : Nat) (a b : Ty), okTy a → okTy b → szT a + szT b ≤ n → ∀ m, szT a + szT b ≤ m → subF n a b = subF m a b := by
  intro n
  induction n with
  | zero => intro a b _ _ h; have := szT_pos a; omega
  | succ n ih =>
    intro a b ha hb h m hm
    obtain ⟨m, rfl⟩ : ∃ k, m = k + 1 := ⟨m - 1, by have := szT_pos a; omega⟩
    simp only [subF]
    cases hball : b.all with
    | true => rfl
    | false =>
      cases haall : a.all with
      | true => rfl
      | false =>
        have e1 : (a.pair == 0 || (b.pair != 0 && subF n (carT a) (carT b) && (!(a.pair == 1 || b.pair == 1) || subF n (cdrT a) (cdrT b)))) = (a.pair == 0 || (b.pair != 0 && subF m (carT a) (carT b) && (!(a.pair == 1 || b.pair == 1) || subF m (cdrT a) (cdrT b)))) := by
          by_cases ha0 : a.pair = 0
          · rw [ha0]; rfl
          · by_cases hb0 : b.pair = 0
            · rw [hb0]; rfl
            · have ca := carS ha haall ha0
              have cb := carS hb hball hb0
              have da := cdrS ha haall ha0
              have db := cdrS hb hball hb0
              rw [ih _ _ ca.2 cb.2 (by omega) m (by omega)]
              by_cases h1 : a.pair = 1 ∨ b.pair = 1
              · have hlt : szT (cdrT a) + szT (cdrT b) < szT a + szT b := by
                  rcases h1 with h1 | h1
                  · have := da.2.1 h1; omega
                  · have := db.2.1 h1; omega
                rw [ih _ _ da.2.2 db.2.2 (by omega) m (by omega)]
              · have h1' : (a.pair == 1 || b.pair == 1) = false := by
                  rw [Bool.or_eq_false_iff, beq_eq_false_iff_ne, beq_eq_false_iff_ne]
                  exact ⟨fun h => h1 (.inl h), fun h => h1 (.inr h)⟩
                rw [h1']; rfl
        have e2 : (a.fn == 0 || b.fn == 2 || (b.fn != 0 && a.fn != 2 && a.funs.length == b.funs.length && ((List.range (a.funs.length - 1)).all fun i => subF n (b.funs.getD i ty0) (a.funs.getD i ty0)) && subF n (a.funs.getD (a.funs.length - 1) ty0) (b.funs.getD (a.funs.length - 1) ty0))) =
            (a.fn == 0 || b.fn == 2 || (b.fn != 0 && a.fn != 2 && a.funs.length == b.funs.length && ((List.range (a.funs.length - 1)).all fun i => subF m (b.funs.getD i ty0) (a.funs.getD i ty0)) && subF m (a.funs.getD (a.funs.length - 1) ty0) (b.funs.getD (a.funs.length - 1) ty0))) := by
          by_cases hc : a.fn ≠ 0 ∧ a.fn ≠ 2 ∧ a.funs.length = b.funs.length
          · have h1 : a.fn = 1 := by have := headP ha; omega
            have hl := (headP ha).2.2.2.2.2.2.2.2.2 h1
            have key : ∀ i, i < a.funs.length → (subF n (b.funs.getD i ty0) (a.funs.getD i ty0) = subF m (b.funs.getD i ty0) (a.funs.getD i ty0)) ∧ (subF n (a.funs.getD i ty0) (b.funs.getD i ty0) = subF m (a.funs.getD i ty0) (b.funs.getD i ty0)) := by
              intro i hi
              have sa := szT_fun a i hi
              have sb := szT_fun b i (by omega)
              have oa := ha.fun (getT_mem hi)
              have ob := hb.fun (getT_mem (show i < b.funs.length by omega))
              exact ⟨ih _ _ ob oa (by omega) m (by omega), ih _ _ oa ob (by omega) m (by omega)⟩
            rw [(key (a.funs.length - 1) (by omega)).2, all_range_congr fun i hi => (key i (by omega)).1]
          · by_cases h0 : a.fn = 0
            · rw [h0]; rfl
            · by_cases h2 : a.fn = 2
              · rw [h2]; simp
              · have h3 : (a.funs.length == b.funs.length) = false := beq_false_of_ne fun h => hc ⟨h0, h2, h⟩
                rw [h3]; simp
        rw [e1, e2]
theorem subF_eq {n : Nat} {a b : Ty} (ha : okTy a) (hb : okTy b) (h : szT a + szT b ≤ n) : subF n a b = subT a b := subF_more n a b ha hb h _ (Nat.le_refl _)
/-- is one of the other: without steps -/
theorem subT_eq {a b : Ty} (ha : okTy a) (hb : okTy b) : subT a b = (b.all || (!a.all && flatSub a.flat b.flat &&
      (a.pair == 0 || (b.pair != 0 && subT (carT a) (carT b) && (!(a.pair == 1 || b.pair == 1) || subT (cdrT a) (cdrT b)))) &&
      (a.fn == 0 || b.fn == 2 || (b.fn != 0 && a.fn != 2 && a.funs.length == b.funs.length &&
        ((List.range (a.funs.length - 1)).all fun i => subT (b.funs.getD i ty0) (a.funs.getD i ty0)) && subT (a.funs.getD (a.funs.length - 1) ty0) (b.funs.getD (a.funs.length - 1) ty0))))) := by
  have hs := szT_pos a
  obtain ⟨n, hn⟩ : ∃ n, szT a + szT b = n + 1 := ⟨szT a + szT b - 1, by omega⟩
  show subF (szT a + szT b) a b = _
  rw [hn]
  simp only [subF]
  cases hball : b.all with
  | true => rfl
  | false =>
    cases haall : a.all with
    | true => rfl
    | false =>
      have e1 : (a.pair == 0 || (b.pair != 0 && subF n (carT a) (carT b) && (!(a.pair == 1 || b.pair == 1) || subF n (cdrT a) (cdrT b)))) = (a.pair == 0 || (b.pair != 0 && subT (carT a) (carT b) && (!(a.pair == 1 || b.pair == 1) || subT (cdrT a) (cdrT b)))) := by
        by_cases ha0 : a.pair = 0
        · rw [ha0]; rfl
        · by_cases hb0 : b.pair = 0
          · rw [hb0]; rfl
          · have ca := carS ha haall ha0
            have cb := carS hb hball hb0
            have da := cdrS ha haall ha0
            have db := cdrS hb hball hb0
            rw [subF_eq ca.2 cb.2 (by omega)]
            by_cases h1 : a.pair = 1 ∨ b.pair = 1
            · have hlt : szT (cdrT a) + szT (cdrT b) < szT a + szT b := by
                rcases h1 with h1 | h1
                · have := da.2.1 h1; omega
                · have := db.2.1 h1; omega
              rw [subF_eq da.2.2 db.2.2 (by omega)]
            · have h1' : (a.pair == 1 || b.pair == 1) = false := by
                rw [Bool.or_eq_false_iff, beq_eq_false_iff_ne, beq_eq_false_iff_ne]
                exact ⟨fun h => h1 (.inl h), fun h => h1 (.inr h)⟩
              rw [h1']; rfl
      have e2 : (a.fn == 0 || b.fn == 2 || (b.fn != 0 && a.fn != 2 && a.funs.length == b.funs.length && ((List.range (a.funs.length - 1)).all fun i => subF n (b.funs.getD i ty0) (a.funs.getD i ty0)) && subF n (a.funs.getD (a.funs.length - 1) ty0) (b.funs.getD (a.funs.length - 1) ty0))) =
          (a.fn == 0 || b.fn == 2 || (b.fn != 0 && a.fn != 2 && a.funs.length == b.funs.length && ((List.range (a.funs.length - 1)).all fun i => subT (b.funs.getD i ty0) (a.funs.getD i ty0)) && subT (a.funs.getD (a.funs.length - 1) ty0) (b.funs.getD (a.funs.length - 1) ty0))) := by
        by_cases hc : a.fn ≠ 0 ∧ a.fn ≠ 2 ∧ a.funs.length = b.funs.length
        · have h1 : a.fn = 1 := by have := headP ha; omega
          have hl := (headP ha).2.2.2.2.2.2.2.2.2 h1
          have key : ∀ i, i < a.funs.length → (subF n (b.funs.getD i ty0) (a.funs.getD i ty0) = subT (b.funs.getD i ty0) (a.funs.getD i ty0)) ∧ (subF n (a.funs.getD i ty0) (b.funs.getD i ty0) = subT (a.funs.getD i ty0) (b.funs.getD i ty0)) := by
            intro i hi
            have sa := szT_fun a i hi
            have sb := szT_fun b i (by omega)
            have oa := ha.fun (getT_mem hi)
            have ob := hb.fun (getT_mem (show i < b.funs.length by omega))
            exact ⟨subF_eq ob oa (by omega), subF_eq oa ob (by omega)⟩
          rw [(key (a.funs.length - 1) (by omega)).2, all_range_congr fun i hi => (key i (by omega)).1]
        · by_cases h0 : a.fn = 0
          · rw [h0]; rfl
          · by_cases h2 : a.fn = 2
            · rw [h2]; simp
            · have h3 : (a.funs.length == b.funs.length) = false := beq_false_of_ne fun h => hc ⟨h0, h2, h⟩
              rw [h3]; simp
      rw [e1, e2]
end Go.Proofs.Ytgjkobkcmgliaaa
