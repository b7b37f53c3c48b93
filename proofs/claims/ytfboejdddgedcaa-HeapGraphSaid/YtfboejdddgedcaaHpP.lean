import Derived.Laws.Bits64b
namespace Go.Proofs.Ytfboejdddgedcaa
/-- an object: its kind, its fields -/
structure Ob where
  kind : Int
  f : List Nat
def ob0 : Ob := ⟨0, []⟩
def szO (o : Ob) : Nat := o.f.length + 1
def usedH (l : List Ob) : Nat := (l.map szO).sum
/-- where the i-th object stands -/
def adrH (l : List Ob) (i : Nat) : Nat := 1 + usedH (l.take i)
def wordH (l : List Ob) (i : Nat) : Nat := 4 * adrH l i
/-- whose word it is -/
def atH (l : List Ob) (w : Nat) : Option Nat := (List.range l.length).find? fun i => decide (w = wordH l i)
theorem usedH_nil : usedH [] = 0 := rfl
theorem usedH_cons (o : Ob) (l : List Ob) : usedH (o :: l) = szO o + usedH l := by simp [usedH]
theorem usedH_app (l m : List Ob) : usedH (l ++ m) = usedH l + usedH m := by simp [usedH]
theorem adrH_succ {l : List Ob} {i : Nat} (h : i < l.length) : adrH l (i + 1) = adrH l i + szO (l.getD i ob0) := by
  unfold adrH
  rw [List.take_succ_eq_append_getElem h, usedH_app]
  simp [usedH, List.getD_eq_getElem?_getD, h]; omega
theorem adrH_lt {l : List Ob} : ∀ {j i : Nat}, i < j → j ≤ l.length → adrH l i < adrH l j
  | 0, i, h, _ => absurd h (Nat.not_lt_zero _)
  | j + 1, i, h, hj => by
    rw [adrH_succ (by omega)]
    unfold szO
    rcases Nat.lt_or_ge i j with h1 | h1
    · have := adrH_lt (l := l) h1 (by omega); omega
    · obtain rfl : i = j := by omega
      omega
theorem adrH_pos (l : List Ob) (i : Nat) : 1 ≤ adrH l i := by unfold adrH; omega
theorem adrH_end (l : List Ob) : adrH l l.length = 1 + usedH l := by unfold adrH; rw [List.take_length]
theorem wordH_inj {l : List Ob} {i j : Nat} (hi : i < l.length) (hj : j < l.length) (h : wordH l i = wordH l j) : i = j := by
  unfold wordH at h
  rcases Nat.lt_trichotomy i j with h1 | h1 | h1
  · have := adrH_lt (l := l) h1 (by omega); omega
  · exact h1
  · have := adrH_lt (l := l) h1 (by omega); omega
theorem atH_some {l : List Ob} {w k : Nat} : atH l w = some k ↔ k < l.length ∧ w = wordH l k := by
  constructor
  · intro h
    have h1 := List.find?_some h
    have h2 := List.mem_of_find?_eq_some h
    exact ⟨List.mem_range.1 h2, of_decide_eq_true h1⟩
  · rintro ⟨hk, rfl⟩
    cases he : atH l (wordH l k) with
    | none =>
      have := List.find?_eq_none.1 he k (List.mem_range.2 hk)
      simp at this
    | some j =>
      have h1 := List.find?_some he
      have h2 := List.mem_range.1 (List.mem_of_find?_eq_some he)
      rw [wordH_inj hk h2 (of_decide_eq_true h1)]
theorem atH_low {l : List Ob} {w : Nat} (h : w % 4 ≠ 0 ∨ w = 0) : atH l w = none := by
  cases he : atH l w with
  | none => rfl
  | some k =>
    obtain ⟨_, h1⟩ := atH_some.1 he
    have := adrH_pos l k
    unfold wordH at h1
    omega
/-- one more in the order, if it is an object's word and new -/
def addN (order : List Nat) : Option Nat → List Nat
  | none => order
  | some k => if k ∈ order then order else order ++ [k]
def visitH (l : List Ob) (order ws : List Nat) : List Nat := ws.foldl (fun o w => addN o (atH l w)) order
def refsO (o : Ob) : List Nat := if o.kind < 64 then o.f else []
/-- what is led to: of so many steps, from the i-th of the order on -/
def bfsH (l : List Ob) : Nat → Nat → List Nat → List Nat
  | 0, _, order => order
  | n + 1, i, order => if i < order.length then bfsH l n (i + 1) (visitH l order (refsO (l.getD (order.getD i 0) ob0))) else order
def orderH (l : List Ob) (roots : List Nat) : List Nat := bfsH l l.length 0 (visitH l [] roots)
/-- an order: no object twice, each one there -/
def OrdH (l : List Ob) (o : List Nat) : Prop := o.Nodup ∧ ∀ k ∈ o, k < l.length
theorem addN_mem {o : List Nat} {x : Option Nat} {k : Nat} : k ∈ addN o x ↔ k ∈ o ∨ x = some k := by
  cases x with
  | none => simp [addN]
  | some j =>
    unfold addN
    simp only
    split
    · constructor
      · exact .inl
      · rintro (h | h)
        · exact h
        · cases h; assumption
    · simp only [List.mem_append, List.mem_singleton, Option.some.injEq]
      constructor
      · rintro (h | h)
        · exact .inl h
        · exact .inr h.symm
      · rintro (h | h)
        · exact .inl h
        · exact .inr h.symm
theorem addN_ord {l : List Ob} {o : List Nat} (h : OrdH l o) (w : Nat) : OrdH l (addN o (atH l w)) := by
  refine ⟨?_, fun k hk => ?_⟩
  · cases he : atH l w with
    | none => exact h.1
    | some j =>
      unfold addN
      simp only
      split
      · exact h.1
      · rename_i hn
        rw [List.nodup_append]
        refine ⟨h.1, by simp, fun a ha b hb => ?_⟩
        rw [List.mem_singleton] at hb
        rintro rfl
        exact hn (hb ▸ ha)
  · rcases addN_mem.1 hk with h1 | h1
    · exact h.2 k h1
    · exact (atH_some.1 h1).1
theorem addN_pre (o : List Nat) (x : Option Nat) : o <+: addN o x := by
  cases x with
  | none => exact List.prefix_rfl
  | some j =>
    unfold addN
    simp only
    split
    · exact List.prefix_rfl
    · exact List.prefix_append _ _
theorem visitH_cons (l : List Ob) (o : List Nat) (w : Nat) (ws : List Nat) : visitH l o (w :: ws) = visitH l (addN o (atH l w)) ws := rfl
theorem visitH_ord {l : List Ob} : ∀ (ws : List Nat) {o : List Nat}, OrdH l o → OrdH l (visitH l o ws)
  | [], _, h => h
  | w :: ws, _, h => visitH_ord ws (addN_ord h w)
theorem visitH_pre {l : List Ob} : ∀ (ws : List Nat) (o : List Nat), o <+: visitH l o ws
  | [], _ => List.prefix_rfl
  | w :: ws, o => (addN_pre o (atH l w)).trans (visitH_pre ws _)
theorem visitH_mem {l : List Ob} {k : Nat} : ∀ (ws : List Nat) {o : List Nat}, k ∈ visitH l o ws ↔ k ∈ o ∨ ∃ w ∈ ws, atH l w = some k
  | [], o => by simp [visitH]
  | w :: ws, o => by
    rw [visitH_cons, visitH_mem ws, addN_mem]
    constructor
    · rintro ((h | h) | ⟨x, hx, h⟩)
      · exact .inl h
      · exact .inr ⟨w, List.mem_cons_self, h⟩
      · exact .inr ⟨x, List.mem_cons_of_mem _ hx, h⟩
    · rintro (h | ⟨x, hx, h⟩)
      · exact .inl (.inl h)
      · rcases List.mem_cons.1 hx with rfl | hx
        · exact .inl (.inr h)
        · exact .inr ⟨x, hx, h⟩
theorem nodup_len : ∀ {o m : List Nat}, o.Nodup → o ⊆ m → o.length ≤ m.length
  | [], m, _, _ => Nat.zero_le _
  | k :: r, m, h, hs => by
    have hk : k ∈ m := hs List.mem_cons_self
    rw [List.nodup_cons] at h
    have h2 : r ⊆ m.erase k := fun x hx => by
      have hne : x ≠ k := fun e => h.1 (e ▸ hx)
      exact (List.mem_erase_of_ne hne).2 (hs (List.mem_cons_of_mem _ hx))
    have h3 := nodup_len h.2 h2
    rw [List.length_erase_of_mem hk] at h3
    have := List.length_pos_of_mem hk
    simp only [List.length_cons]; omega
theorem ord_len {l : List Ob} {o : List Nat} (h : OrdH l o) : o.length ≤ l.length := by
  have h1 : o ⊆ List.range l.length := fun k hk => List.mem_range.2 (h.2 k hk)
  have := nodup_len h.1 h1
  simpa using this
theorem bfsH_succ (l : List Ob) (n i : Nat) (o : List Nat) : bfsH l (n + 1) i o = if i < o.length then bfsH l n (i + 1) (visitH l o (refsO (l.getD (o.getD i 0) ob0))) else o := rfl
theorem bfsH_ord {l : List Ob} : ∀ (n i : Nat) {o : List Nat}, OrdH l o → OrdH l (bfsH l n i o)
  | 0, _, _, h => h
  | n + 1, i, o, h => by
    rw [bfsH_succ]
    split
    · exact bfsH_ord n (i + 1) (visitH_ord _ h)
    · exact h
theorem bfsH_pre {l : List Ob} : ∀ (n i : Nat) (o : List Nat), o <+: bfsH l n i o
  | 0, _, _ => List.prefix_rfl
  | n + 1, i, o => by
    rw [bfsH_succ]
    split
    · exact (visitH_pre _ o).trans (bfsH_pre n (i + 1) _)
    · exact List.prefix_rfl
/-- enough steps: one more does nothing -/
theorem bfsH_fuel {l : List Ob} : ∀ (n m i : Nat) {o : List Nat}, OrdH l o → l.length ≤ n + i → l.length ≤ m + i → bfsH l n i o = bfsH l m i o
  | 0, m, i, o, h, hn, _ => by
    have := ord_len h
    cases m with
    | zero => rfl
    | succ m => rw [bfsH_succ, if_neg (by omega)]; rfl
  | n + 1, 0, i, o, h, _, hm => by
    have := ord_len h
    rw [bfsH_succ, if_neg (by omega)]; rfl
  | n + 1, m + 1, i, o, h, hn, hm => by
    rw [bfsH_succ, bfsH_succ]
    split
    · exact bfsH_fuel n m (i + 1) (visitH_ord _ h) (by omega) (by omega)
    · rfl
/-- what those of the order lead to is in it -/
theorem bfsH_closed {l : List Ob} : ∀ (n i : Nat) {o : List Nat}, OrdH l o → l.length ≤ n + i → (∀ j, j < i → ∀ w ∈ refsO (l.getD (o.getD j 0) ob0), ∀ k, atH l w = some k → k ∈ o) → i ≤ o.length →
    ∀ j ∈ bfsH l n i o, ∀ w ∈ refsO (l.getD j ob0), ∀ k, atH l w = some k → k ∈ bfsH l n i o
  | 0, i, o, h, hn, hc, hi => by
    have h1 := ord_len h
    intro j hj w hw k hk
    show k ∈ o
    have hj' : j ∈ o := hj
    obtain ⟨a, ha, rfl⟩ := List.getElem_of_mem hj'
    exact hc a (by omega) w (by simpa [List.getD_eq_getElem?_getD, ha] using hw) k hk
  | n + 1, i, o, h, hn, hc, hi => by
    rw [bfsH_succ]
    split
    · rename_i hlt
      refine bfsH_closed n (i + 1) (visitH_ord _ h) (by omega) (fun j hj w hw k hk => ?_) ?_
      · have hp := visitH_pre (l := l) (refsO (l.getD (o.getD i 0) ob0)) o
        have hg : (visitH l o (refsO (l.getD (o.getD i 0) ob0))).getD j 0 = o.getD j 0 := by
          obtain ⟨t, ht⟩ := hp
          rw [← ht]
          simp [List.getD_eq_getElem?_getD, List.getElem?_append_left (show j < o.length by omega)]
        rw [hg] at hw
        rcases Nat.lt_or_ge j i with h1 | h1
        · exact hp.subset (hc j h1 w hw k hk)
        · obtain rfl : j = i := by omega
          exact (visitH_mem _).2 (.inr ⟨w, hw, hk⟩)
      · have := (visitH_pre (l := l) (refsO (l.getD (o.getD i 0) ob0)) o).length_le
        omega
    · intro j hj w hw k hk
      obtain ⟨a, ha, rfl⟩ := List.getElem_of_mem hj
      exact hc a (by omega) w (by simpa [List.getD_eq_getElem?_getD, ha] using hw) k hk
/-- nothing is in it but what is led to -/
theorem bfsH_least {l : List Ob} {P : Nat → Prop} (hP : ∀ j, P j → ∀ w ∈ refsO (l.getD j ob0), ∀ k, atH l w = some k → P k) : ∀ (n i : Nat) {o : List Nat}, (∀ k ∈ o, P k) → ∀ k ∈ bfsH l n i o, P k
  | 0, _, _, h => h
  | n + 1, i, o, h => by
    rw [bfsH_succ]
    split
    · rename_i hlt
      refine bfsH_least hP n (i + 1) fun k hk => ?_
      rcases (visitH_mem _).1 hk with h1 | ⟨w, hw, h1⟩
      · exact h k h1
      · refine hP _ (h _ ?_) w hw k h1
        simp [List.getD_eq_getElem?_getD, hlt]
    · exact h
theorem ord_nil (l : List Ob) : OrdH l [] := ⟨by simp, by simp⟩
theorem orderH_ord (l : List Ob) (roots : List Nat) : OrdH l (orderH l roots) := bfsH_ord _ _ (visitH_ord _ (ord_nil l))
theorem orderH_roots {l : List Ob} {roots : List Nat} {w k : Nat} (hw : w ∈ roots) (hk : atH l w = some k) : k ∈ orderH l roots :=
  (bfsH_pre _ _ _).subset ((visitH_mem _).2 (.inr ⟨w, hw, hk⟩))
theorem orderH_closed {l : List Ob} {roots : List Nat} {j : Nat} (hj : j ∈ orderH l roots) {w : Nat} (hw : w ∈ refsO (l.getD j ob0)) {k : Nat} (hk : atH l w = some k) : k ∈ orderH l roots :=
  bfsH_closed l.length 0 (visitH_ord _ (ord_nil l)) (by omega) (fun _ h => absurd h (Nat.not_lt_zero _)) (Nat.zero_le _) j hj w hw k hk
theorem orderH_least {l : List Ob} {roots : List Nat} {P : Nat → Prop} (hr : ∀ w ∈ roots, ∀ k, atH l w = some k → P k) (hP : ∀ j, P j → ∀ w ∈ refsO (l.getD j ob0), ∀ k, atH l w = some k → P k) : ∀ k ∈ orderH l roots, P k :=
  bfsH_least hP _ _ fun k hk => by
    rcases (visitH_mem _).1 hk with h | ⟨w, hw, h⟩
    · cases h
    · exact hr w hw k h
/-! what a Collect does -/
def szI (l : List Ob) (i : Nat) : Nat := szO (l.getD i ob0)
/-- where the j-th of the order will stand -/
def adrO (l : List Ob) (o : List Nat) (j : Nat) : Nat := 1 + ((o.take j).map (szI l)).sum
def relocH (l : List Ob) (o : List Nat) (w : Nat) : Nat :=
  match atH l w with
  | some k => 4 * adrO l o (o.idxOf k)
  | none => w
def movedH (l : List Ob) (o : List Nat) (i : Nat) : Ob := ⟨(l.getD i ob0).kind, if (l.getD i ob0).kind < 64 then (l.getD i ob0).f.map (relocH l o) else (l.getD i ob0).f⟩
def newH (l : List Ob) (o : List Nat) : List Ob := o.map (movedH l o)
def collH (l : List Ob) (roots : List Nat) : List Ob × List Nat := (newH l (orderH l roots), roots.map (relocH l (orderH l roots)))
theorem moved_sz (l : List Ob) (o : List Nat) (i : Nat) : szO (movedH l o i) = szI l i := by
  unfold movedH szI szO
  simp only
  split <;> simp
theorem newH_len (l : List Ob) (o : List Nat) : (newH l o).length = o.length := by simp [newH]
theorem adr_new (l : List Ob) (o : List Nat) (j : Nat) : adrH (newH l o) j = adrO l o j := by
  unfold adrH adrO usedH newH
  rw [← List.map_take, List.map_map]
  congr 2
  apply List.map_congr_left
  intro i _
  exact moved_sz l o i
theorem new_get {l : List Ob} {o : List Nat} {k : Nat} (hk : k ∈ o) : (newH l o).getD (o.idxOf k) ob0 = movedH l o k := by
  have h := List.idxOf_lt_length_iff.2 hk
  unfold newH
  rw [List.getD_eq_getElem?_getD, List.getElem?_map, List.getElem?_eq_getElem h, List.getElem_idxOf h]
  rfl
theorem reloc_some {l : List Ob} {o : List Nat} {w k : Nat} (h : atH l w = some k) : relocH l o w = 4 * adrO l o (o.idxOf k) := by unfold relocH; rw [h]
theorem reloc_none {l : List Ob} {o : List Nat} {w : Nat} (h : atH l w = none) : relocH l o w = w := by unfold relocH; rw [h]
theorem idx_inj {o : List Nat} {a b : Nat} (ha : a ∈ o) (h : o.idxOf a = o.idxOf b) : a = b := by
  have h1 := List.idxOf_lt_length_iff.2 ha
  have h2 : o.idxOf b < o.length := h ▸ h1
  have e1 : o[o.idxOf a]'h1 = a := List.getElem_idxOf h1
  have e2 : o[o.idxOf b]'h2 = b := List.getElem_idxOf h2
  rw [← e1, ← e2]
  congr 1
/-- a word that is no stray one: whose object, if it has one, is kept -/
def GoodH (l : List Ob) (o : List Nat) (w : Nat) : Prop := (∀ k, atH l w = some k → k ∈ o) ∧ (atH l w = none → w % 4 ≠ 0 ∨ w = 0)
theorem at_reloc {l : List Ob} {o : List Nat} {w : Nat} (h : GoodH l o w) : atH (newH l o) (relocH l o w) = (atH l w).map o.idxOf := by
  cases he : atH l w with
  | none => rw [reloc_none he]; exact atH_low (h.2 he)
  | some k =>
    rw [reloc_some he]
    have hk := h.1 k he
    refine atH_some.2 ⟨by rw [newH_len]; exact List.idxOf_lt_length_iff.2 hk, ?_⟩
    unfold wordH
    rw [adr_new]
theorem reloc_inj {l : List Ob} {o : List Nat} {v w : Nat} (hv : GoodH l o v) (hw : GoodH l o w) (h : relocH l o v = relocH l o w) : v = w := by
  have h1 := at_reloc hv
  have h2 := at_reloc hw
  rw [h] at h1
  rw [h1] at h2
  cases ev : atH l v with
  | none =>
    cases ew : atH l w with
    | none => rw [reloc_none ev, reloc_none ew] at h; exact h
    | some b => rw [ev, ew] at h2; cases h2
  | some a =>
    cases ew : atH l w with
    | none => rw [ev, ew] at h2; cases h2
    | some b =>
      rw [ev, ew] at h2
      simp only [Option.map_some, Option.some.injEq] at h2
      obtain rfl := idx_inj (hv.1 a ev) h2
      rw [(atH_some.1 ev).2, (atH_some.1 ew).2]
/-- all that those of an order lead to is good -/
def ClosH (l : List Ob) (o : List Nat) : Prop := ∀ j ∈ o, ∀ w ∈ refsO (l.getD j ob0), GoodH l o w
theorem refs_moved (l : List Ob) (o : List Nat) (i : Nat) : refsO (movedH l o i) = (refsO (l.getD i ob0)).map (relocH l o) := by
  unfold refsO movedH
  simp only
  split <;> simp_all
theorem mem_map_idx {o a : List Nat} {k : Nat} (ha : ∀ x ∈ a, x ∈ o) : o.idxOf k ∈ a.map o.idxOf ↔ k ∈ a := by
  constructor
  · intro h
    obtain ⟨x, hx, e⟩ := List.mem_map.1 h
    rw [← idx_inj (ha x hx) e]; exact hx
  · exact fun h => List.mem_map.2 ⟨k, h, rfl⟩
theorem addN_sim {o a : List Nat} (x : Option Nat) (ha : ∀ y ∈ a, y ∈ o) : addN (a.map o.idxOf) (x.map o.idxOf) = (addN a x).map o.idxOf := by
  cases x with
  | none => rfl
  | some k =>
    have hm := mem_map_idx (k := k) ha
    by_cases e : k ∈ a
    · show (if o.idxOf k ∈ a.map o.idxOf then _ else _) = (if k ∈ a then a else a ++ [k]).map o.idxOf
      rw [if_pos e, if_pos (hm.2 e)]
    · show (if o.idxOf k ∈ a.map o.idxOf then _ else _) = (if k ∈ a then a else a ++ [k]).map o.idxOf
      rw [if_neg e, if_neg (fun h => e (hm.1 h))]
      simp
theorem addN_sub {o a : List Nat} {x : Option Nat} (ha : ∀ y ∈ a, y ∈ o) (hx : ∀ k, x = some k → k ∈ o) : ∀ y ∈ addN a x, y ∈ o := fun y hy => (addN_mem.1 hy).elim (ha y) (hx y)
theorem visit_sim {l : List Ob} {o : List Nat} : ∀ (ws a : List Nat), (∀ y ∈ a, y ∈ o) → (∀ w ∈ ws, GoodH l o w) → visitH (newH l o) (a.map o.idxOf) (ws.map (relocH l o)) = (visitH l a ws).map o.idxOf ∧ ∀ y ∈ visitH l a ws, y ∈ o
  | [], a, ha, _ => ⟨rfl, ha⟩
  | w :: ws, a, ha, hw => by
    have hg := hw w List.mem_cons_self
    rw [List.map_cons, visitH_cons, visitH_cons, at_reloc hg, addN_sim (atH l w) ha]
    exact visit_sim ws _ (addN_sub ha hg.1) fun x hx => hw x (List.mem_cons_of_mem _ hx)
theorem bfs_sim {l : List Ob} {o : List Nat} (hc : ClosH l o) : ∀ (n i : Nat) (a : List Nat), (∀ y ∈ a, y ∈ o) → bfsH (newH l o) n i (a.map o.idxOf) = (bfsH l n i a).map o.idxOf
  | 0, _, _, _ => rfl
  | n + 1, i, a, ha => by
    rw [bfsH_succ, bfsH_succ, List.length_map]
    by_cases h : i < a.length
    · rw [if_pos h, if_pos h]
      have hi : a.getD i 0 ∈ o := ha _ (by simp [List.getD_eq_getElem?_getD, h])
      have e : (a.map o.idxOf).getD i 0 = o.idxOf (a.getD i 0) := by simp [List.getD_eq_getElem?_getD, h]
      rw [e, new_get hi, refs_moved]
      have hv := visit_sim (refsO (l.getD (a.getD i 0) ob0)) a ha (hc _ hi)
      rw [hv.1]
      exact bfs_sim hc n (i + 1) _ hv.2
    · rw [if_neg h, if_neg h]
theorem map_idx {o : List Nat} (h : o.Nodup) : o.map o.idxOf = List.range o.length := by
  apply List.ext_getElem (by simp)
  intro i h1 h2
  simp only [List.getElem_map, List.getElem_range]
  have hi : i < o.length := by simpa using h2
  have hm : o[i] ∈ o := List.getElem_mem hi
  have h3 := List.idxOf_lt_length_iff.2 hm
  exact (List.getElem_inj h).1 (List.getElem_idxOf h3)
/-- what is good of the roots and of the fields that are led to: then a Collect keeps it all -/
def CleanH (l : List Ob) (roots : List Nat) : Prop := (∀ w ∈ roots, atH l w = none → w % 4 ≠ 0 ∨ w = 0) ∧ ∀ o ∈ l, ∀ w ∈ o.f, atH l w = none → w % 4 ≠ 0 ∨ w = 0
theorem refs_mem {l : List Ob} {j w : Nat} (hj : j < l.length) (hw : w ∈ refsO (l.getD j ob0)) : ∃ o ∈ l, w ∈ o.f := by
  refine ⟨l.getD j ob0, by simp [List.getD_eq_getElem?_getD, hj], ?_⟩
  unfold refsO at hw
  split at hw
  · exact hw
  · cases hw
theorem clean_clos {l : List Ob} {roots : List Nat} (h : CleanH l roots) : ClosH l (orderH l roots) := fun j hj w hw => by
  refine ⟨fun k hk => orderH_closed hj hw hk, fun he => ?_⟩
  obtain ⟨o, ho, hf⟩ := refs_mem ((orderH_ord l roots).2 j hj) hw
  exact h.2 o ho w hf he
theorem clean_roots {l : List Ob} {roots : List Nat} (h : CleanH l roots) : ∀ w ∈ roots, GoodH l (orderH l roots) w := fun w hw => ⟨fun _ hk => orderH_roots hw hk, h.1 w hw⟩
/-- collected once more the order is that in which all stand -/
theorem order_again {l : List Ob} {roots : List Nat} (h : CleanH l roots) : orderH (collH l roots).1 (collH l roots).2 = List.range (collH l roots).1.length := by
  have ho := orderH_ord l roots
  have hv := visit_sim (l := l) (o := orderH l roots) roots [] (fun _ h => by cases h) (clean_roots h)
  have hov := visitH_ord roots (ord_nil l)
  have hov2 := visitH_ord (roots.map (relocH l (orderH l roots))) (ord_nil (newH l (orderH l roots)))
  show bfsH (newH l (orderH l roots)) (newH l (orderH l roots)).length 0 (visitH (newH l (orderH l roots)) [] (roots.map (relocH l (orderH l roots)))) = List.range (newH l (orderH l roots)).length
  rw [bfsH_fuel _ ((newH l (orderH l roots)).length + l.length) 0 hov2 (by omega) (by omega)]
  rw [show ([] : List Nat) = ([] : List Nat).map (orderH l roots).idxOf from rfl, hv.1, bfs_sim (clean_clos h) _ _ _ hv.2, newH_len]
  rw [← map_idx ho.1]
  congr 1
  exact bfsH_fuel _ l.length 0 hov (by omega) (by omega)
theorem take_range {n j : Nat} (h : j ≤ n) : (List.range n).take j = List.range j := by rw [List.take_range, Nat.min_eq_left h]
theorem adr_range (l : List Ob) {j : Nat} (h : j ≤ l.length) : adrO l (List.range l.length) j = adrH l j := by
  unfold adrO adrH usedH
  rw [take_range h]
  congr 2
  apply List.ext_getElem (by simp; omega)
  intro i h1 h2
  simp [szI, List.getD_eq_getElem?_getD, show i < l.length by simp at h1; omega]
theorem idx_range {n k : Nat} (h : k < n) : (List.range n).idxOf k = k := by
  have hm : k ∈ List.range n := List.mem_range.2 h
  have h3 := List.idxOf_lt_length_iff.2 hm
  have := List.getElem_idxOf h3
  rw [List.getElem_range] at this
  exact this
theorem reloc_range (l : List Ob) (w : Nat) : relocH l (List.range l.length) w = w := by
  cases he : atH l w with
  | none => exact reloc_none he
  | some k =>
    obtain ⟨hk, rfl⟩ := atH_some.1 he
    rw [reloc_some he, idx_range hk, adr_range l (by omega)]
    rfl
theorem new_range (l : List Ob) : newH l (List.range l.length) = l := by
  apply List.ext_getElem (by simp [newH])
  intro i h1 h2
  have e : ∀ f : List Nat, f.map (relocH l (List.range l.length)) = f := fun f => by
    rw [List.map_congr_left (g := id) fun w _ => reloc_range l w, List.map_id]
  simp [newH, movedH, e, List.getD_eq_getElem?_getD, h2]
/-- collected once more nothing moves -/
theorem coll_again {l : List Ob} {roots : List Nat} (h : CleanH l roots) : collH (collH l roots).1 (collH l roots).2 = collH l roots := by
  have h1 := order_again h
  unfold collH at h1 ⊢
  simp only at h1 ⊢
  rw [h1, new_range]
  congr 1
  rw [List.map_congr_left (g := id) fun w _ => reloc_range _ w, List.map_id]
theorem sum_sub (f : Nat → Nat) : ∀ {o m : List Nat}, o.Nodup → o ⊆ m → (o.map f).sum ≤ (m.map f).sum
  | [], m, _, _ => Nat.zero_le _
  | k :: r, m, h, hs => by
    have hk : k ∈ m := hs List.mem_cons_self
    rw [List.nodup_cons] at h
    have h2 : r ⊆ m.erase k := fun x hx => by
      have hne : x ≠ k := fun e => h.1 (e ▸ hx)
      exact (List.mem_erase_of_ne hne).2 (hs (List.mem_cons_of_mem _ hx))
    have h3 := sum_sub f h.2 h2
    have h4 := (List.perm_cons_erase hk).map f
    have h5 := h4.sum_nat
    simp only [List.map_cons, List.sum_cons] at h5 ⊢
    omega
theorem used_range (l : List Ob) : usedH l = ((List.range l.length).map (szI l)).sum := by
  unfold usedH
  congr 1
  apply List.ext_getElem (by simp)
  intro i h1 h2
  simp [szI, List.getD_eq_getElem?_getD, show i < l.length by simpa using h2]
theorem used_new (l : List Ob) (o : List Nat) : usedH (newH l o) = (o.map (szI l)).sum := by
  unfold usedH newH
  rw [List.map_map]
  congr 1
  exact List.map_congr_left fun i _ => moved_sz l o i
theorem used_le {l : List Ob} {o : List Nat} (h : OrdH l o) : usedH (newH l o) ≤ usedH l := by
  rw [used_new, used_range l]
  exact sum_sub _ h.1 fun k hk => List.mem_range.2 (h.2 k hk)
theorem coll_nil (l : List Ob) : collH l [] = ([], []) := by
  have : orderH l [] = [] := by
    unfold orderH
    cases hn : l.length with
    | zero => rfl
    | succ n => rfl
  unfold collH
  rw [this]
  rfl
/-! what words lead to, written down -/
/-- the last place at which a word stands -/
def lastI (seen : List Nat) (w : Nat) : Option Nat := (List.range seen.length).foldl (fun old k => if seen.getD k 0 = w then some k else old) none
def gphH (l : List Ob) : Nat → Nat → List Nat → List Nat → List Nat → List Nat × List Nat
  | 0, _, seen, _, out => (out, seen)
  | n + 1, i, seen, todo, out =>
    if i < todo.length then
      match atH l (todo.getD i 0) with
      | none => gphH l n (i + 1) seen todo (out ++ [0, todo.getD i 0])
      | some k =>
        match lastI seen (todo.getD i 0) with
        | some j => gphH l n (i + 1) seen todo (out ++ [1, j])
        | none =>
          if (l.getD k ob0).kind < 64 then gphH l n (i + 1) (seen ++ [todo.getD i 0]) (todo ++ (l.getD k ob0).f) (out ++ [2, (l.getD k ob0).kind.toNat, (l.getD k ob0).f.length])
          else gphH l n (i + 1) (seen ++ [todo.getD i 0]) todo (out ++ ([2, (l.getD k ob0).kind.toNat, (l.getD k ob0).f.length] ++ (l.getD k ob0).f))
    else (out, seen)
def graphH (l : List Ob) (roots : List Nat) : List Nat := (gphH l 3000 0 [] roots []).1
theorem gphH_succ (l : List Ob) (n i : Nat) (seen todo out : List Nat) : gphH l (n + 1) i seen todo out = if i < todo.length then
      match atH l (todo.getD i 0) with
      | none => gphH l n (i + 1) seen todo (out ++ [0, todo.getD i 0])
      | some k =>
        match lastI seen (todo.getD i 0) with
        | some j => gphH l n (i + 1) seen todo (out ++ [1, j])
        | none =>
          if (l.getD k ob0).kind < 64 then gphH l n (i + 1) (seen ++ [todo.getD i 0]) (todo ++ (l.getD k ob0).f) (out ++ [2, (l.getD k ob0).kind.toNat, (l.getD k ob0).f.length])
          else gphH l n (i + 1) (seen ++ [todo.getD i 0]) todo (out ++ ([2, (l.getD k ob0).kind.toNat, (l.getD k ob0).f.length] ++ (l.getD k ob0).f))
    else (out, seen) := rfl
theorem foldl_last {P : Nat → Prop} [DecidablePred P] : ∀ (l : List Nat) (o : Option Nat), l.foldl (fun old k => if P k then some k else old) o = none ↔ o = none ∧ ∀ k ∈ l, ¬ P k
  | [], o => by simp
  | k :: r, o => by
    rw [List.foldl_cons, foldl_last r]
    by_cases h : P k
    · simp [h]
    · simp [h]
theorem lastI_none {seen : List Nat} {w : Nat} : lastI seen w = none ↔ w ∉ seen := by
  unfold lastI
  rw [foldl_last]
  constructor
  · rintro ⟨_, h⟩ hw
    obtain ⟨k, hk, rfl⟩ := List.getElem_of_mem hw
    exact h k (List.mem_range.2 hk) (by simp [List.getD_eq_getElem?_getD, hk])
  · refine fun h => ⟨rfl, fun k hk e => h ?_⟩
    have hk2 := List.mem_range.1 hk
    rw [← e]
    simp [List.getD_eq_getElem?_getD, hk2]
theorem foldl_congr7 {P Q : Nat → Prop} [DecidablePred P] [DecidablePred Q] : ∀ (l : List Nat) (o : Option Nat), (∀ k ∈ l, P k ↔ Q k) → l.foldl (fun old k => if P k then some k else old) o = l.foldl (fun old k => if Q k then some k else old) o
  | [], _, _ => rfl
  | k :: r, o, h => by
    rw [List.foldl_cons, List.foldl_cons]
    have hk := h k List.mem_cons_self
    by_cases e : P k
    · rw [if_pos e, if_pos (hk.1 e)]; exact foldl_congr7 r _ fun x hx => h x (List.mem_cons_of_mem _ hx)
    · rw [if_neg e, if_neg (fun x => e (hk.2 x))]; exact foldl_congr7 r _ fun x hx => h x (List.mem_cons_of_mem _ hx)
theorem lastI_map {r : Nat → Nat} {seen : List Nat} {w : Nat} (h : ∀ v ∈ seen, r v = r w → v = w) : lastI (seen.map r) (r w) = lastI seen w := by
  unfold lastI
  rw [List.length_map]
  refine foldl_congr7 _ _ fun k hk => ?_
  have hk2 := List.mem_range.1 hk
  have e1 : (seen.map r).getD k 0 = r (seen.getD k 0) := by simp [List.getD_eq_getElem?_getD, hk2]
  have hm : seen.getD k 0 ∈ seen := by simp [List.getD_eq_getElem?_getD, hk2]
  rw [e1]
  exact ⟨h _ hm, fun e => by rw [e]⟩
/-- behind a Collect the same is written down -/
theorem gph_sim {l : List Ob} {o : List Nat} (hc : ClosH l o) (hl : ∀ k ∈ o, k < l.length) : ∀ (n i : Nat) (seen todo out : List Nat), (∀ w ∈ todo, GoodH l o w) → (∀ w ∈ seen, GoodH l o w) →
    gphH (newH l o) n i (seen.map (relocH l o)) (todo.map (relocH l o)) out = ((gphH l n i seen todo out).1, (gphH l n i seen todo out).2.map (relocH l o))
  | 0, _, _, _, _, _, _ => rfl
  | n + 1, i, seen, todo, out, ht, hs => by
    rw [gphH_succ, gphH_succ, List.length_map]
    by_cases h : i < todo.length
    · rw [if_pos h, if_pos h]
      have hm : todo.getD i 0 ∈ todo := by simp [List.getD_eq_getElem?_getD, h]
      have e : (todo.map (relocH l o)).getD i 0 = relocH l o (todo.getD i 0) := by simp [List.getD_eq_getElem?_getD, h]
      have hg := ht _ hm
      rw [e, at_reloc hg, lastI_map fun v hv e => reloc_inj (hs v hv) hg e]
      cases he : atH l (todo.getD i 0) with
      | none =>
        simp only [Option.map_none]
        rw [reloc_none he]
        exact gph_sim hc hl n (i + 1) seen todo _ ht hs
      | some k =>
        simp only [Option.map_some]
        have hk := hg.1 k he
        cases hj : lastI seen (todo.getD i 0) with
        | some j => exact gph_sim hc hl n (i + 1) seen todo _ ht hs
        | none =>
          rw [new_get hk]
          have hs2 : ∀ w ∈ seen ++ [todo.getD i 0], GoodH l o w := fun w hw => (List.mem_append.1 hw).elim (hs w) fun h => by rw [List.mem_singleton.1 h]; exact hg
          by_cases hp : (l.getD k ob0).kind < 64
          · have e1 : (movedH l o k).kind = (l.getD k ob0).kind := rfl
            have e2 : (movedH l o k).f = (l.getD k ob0).f.map (relocH l o) := by unfold movedH; simp only; rw [if_pos hp]
            have er : refsO (l.getD k ob0) = (l.getD k ob0).f := by unfold refsO; rw [if_pos hp]
            rw [e1, e2, if_pos hp, if_pos hp, List.length_map]
            have := gph_sim hc hl n (i + 1) (seen ++ [todo.getD i 0]) (todo ++ (l.getD k ob0).f) (out ++ [2, (l.getD k ob0).kind.toNat, (l.getD k ob0).f.length]) (fun w hw => (List.mem_append.1 hw).elim (ht w) fun h => hc k hk w (er ▸ h)) hs2
            simpa using this
          · have e1 : (movedH l o k).kind = (l.getD k ob0).kind := rfl
            have e2 : (movedH l o k).f = (l.getD k ob0).f := by unfold movedH; simp only; rw [if_neg hp]
            rw [e1, e2, if_neg hp, if_neg hp]
            have := gph_sim hc hl n (i + 1) (seen ++ [todo.getD i 0]) todo (out ++ ([2, (l.getD k ob0).kind.toNat, (l.getD k ob0).f.length] ++ (l.getD k ob0).f)) ht hs2
            simpa using this
    · rw [if_neg h, if_neg h]
theorem graph_same {l : List Ob} {roots : List Nat} (h : CleanH l roots) : graphH (collH l roots).1 (collH l roots).2 = graphH l roots := by
  have := gph_sim (clean_clos h) (orderH_ord l roots).2 3000 0 [] roots [] (clean_roots h) (fun _ h => by cases h)
  unfold graphH
  rw [show (collH l roots).1 = newH l (orderH l roots) from rfl, show (collH l roots).2 = roots.map (relocH l (orderH l roots)) from rfl]
  rw [List.map_nil] at this
  rw [this]
/-! how many words are written down -/
def prsH : Nat → List Nat → Nat
  | 0, _ => 0
  | _ + 1, [] => 0
  | n + 1, a :: r => if a = 2 then r.getD 1 0 + 1 + prsH n ((r.drop 2).drop (if 64 ≤ r.getD 0 0 then r.getD 1 0 else 0)) else prsH n (r.drop 1)
theorem prsH_nil (n : Nat) : prsH n [] = 0 := by cases n <;> rfl
/-- a piece of what is written, and of how many words it tells -/
def ChkOK (c : List Nat) (s : Nat) : Prop := (∃ w, c = [0, w] ∧ s = 0) ∨ (∃ j, c = [1, j] ∧ s = 0) ∨ (∃ k m, c = [2, k, m] ∧ k < 64 ∧ s = m + 1) ∨ (∃ k f, c = [2, k, f.length] ++ f ∧ 64 ≤ k ∧ s = f.length + 1)
theorem prs_chunk {c : List Nat} {s : Nat} (h : ChkOK c s) (n : Nat) (rest : List Nat) : prsH (n + 1) (c ++ rest) = s + prsH n rest := by
  rcases h with ⟨w, rfl, rfl⟩ | ⟨j, rfl, rfl⟩ | ⟨k, m, rfl, hk, rfl⟩ | ⟨k, f, rfl, hk, rfl⟩
  · simp [prsH]
  · simp [prsH]
  · simp [prsH, show ¬ 64 ≤ k by omega]
  · simp [prsH, hk]
def OutOK (out : List Nat) (s : Nat) : Prop := ∃ cs : List (List Nat × Nat), (∀ p ∈ cs, ChkOK p.1 p.2) ∧ out = (cs.map fun p => p.1).flatten ∧ s = (cs.map fun p => p.2).sum
theorem outOK_nil : OutOK [] 0 := ⟨[], by simp, rfl, rfl⟩
theorem OutOK.snoc {out c : List Nat} {s t : Nat} (h : OutOK out s) (hc : ChkOK c t) : OutOK (out ++ c) (s + t) := by
  obtain ⟨cs, h1, h2, h3⟩ := h
  refine ⟨cs ++ [(c, t)], fun p hp => ?_, by simp [h2], by simp [h3]⟩
  rcases List.mem_append.1 hp with h | h
  · exact h1 p h
  · rw [List.mem_singleton.1 h]; exact hc
theorem prs_flat : ∀ (cs : List (List Nat × Nat)) (n : Nat), (∀ p ∈ cs, ChkOK p.1 p.2) → cs.length ≤ n → prsH n (cs.map fun p => p.1).flatten = (cs.map fun p => p.2).sum
  | [], n, _, _ => by simp [prsH_nil]
  | p :: r, 0, _, h => by simp at h
  | p :: r, n + 1, h, hn => by
    simp only [List.map_cons, List.flatten_cons, List.sum_cons]
    rw [prs_chunk (h p List.mem_cons_self), prs_flat r n (fun q hq => h q (List.mem_cons_of_mem _ hq)) (by simpa using hn)]
theorem chk_len {c : List Nat} {s : Nat} (h : ChkOK c s) : 1 ≤ c.length := by
  rcases h with ⟨w, rfl, rfl⟩ | ⟨j, rfl, rfl⟩ | ⟨k, m, rfl, hk, rfl⟩ | ⟨k, f, rfl, hk, rfl⟩ <;> simp
theorem flat_len : ∀ (cs : List (List Nat × Nat)), (∀ p ∈ cs, ChkOK p.1 p.2) → cs.length ≤ (cs.map fun p => p.1).flatten.length
  | [], _ => by simp
  | p :: r, h => by
    have h1 := chk_len (h p List.mem_cons_self)
    have h2 := flat_len r fun q hq => h q (List.mem_cons_of_mem _ hq)
    simp only [List.map_cons, List.flatten_cons, List.length_cons, List.length_append]
    omega
theorem prs_out {out : List Nat} {s n : Nat} (h : OutOK out s) (hn : out.length ≤ n) : prsH n out = s := by
  obtain ⟨cs, h1, rfl, rfl⟩ := h
  exact prs_flat cs n h1 (Nat.le_trans (flat_len cs h1) hn)
def szW (l : List Ob) (w : Nat) : Nat := match atH l w with
  | some k => szI l k
  | none => 0
/-- how many fields there are of what has not been seen -/
def restH (l : List Ob) (seen : List Nat) : Nat := ((List.range l.length).map fun k => if wordH l k ∈ seen then 0 else (l.getD k ob0).f.length).sum
theorem sum_change {f g : Nat → Nat} {k : Nat} : ∀ {m : List Nat}, m.Nodup → k ∈ m → (∀ x ∈ m, x ≠ k → f x = g x) → (m.map f).sum + g k = (m.map g).sum + f k
  | [], _, h, _ => by cases h
  | a :: r, hn, hk, h => by
    rw [List.nodup_cons] at hn
    simp only [List.map_cons, List.sum_cons]
    by_cases e : a = k
    · subst e
      have : r.map f = r.map g := List.map_congr_left fun x hx => h x (List.mem_cons_of_mem _ hx) fun e => hn.1 (e ▸ hx)
      rw [this]; omega
    · have hk2 : k ∈ r := (List.mem_cons.1 hk).resolve_left fun x => e x.symm
      have h1 := sum_change hn.2 hk2 fun x hx => h x (List.mem_cons_of_mem _ hx)
      have h2 := h a List.mem_cons_self e
      omega
theorem rest_add {l : List Ob} {seen : List Nat} {k : Nat} (hk : k < l.length) (h : wordH l k ∉ seen) : restH l (seen ++ [wordH l k]) + (l.getD k ob0).f.length = restH l seen := by
  have := sum_change (f := fun k => if wordH l k ∈ seen then 0 else (l.getD k ob0).f.length) (g := fun j => if wordH l j ∈ seen ++ [wordH l k] then 0 else (l.getD j ob0).f.length) (k := k) (m := List.range l.length) List.nodup_range (List.mem_range.2 hk) fun x hx hne => by
    have hx2 := List.mem_range.1 hx
    have e : wordH l x ∈ seen ++ [wordH l k] ↔ wordH l x ∈ seen := by
      constructor
      · intro hm
        rcases List.mem_append.1 hm with h1 | h1
        · exact h1
        · exact absurd (wordH_inj hx2 hk (List.mem_singleton.1 h1)) hne
      · exact fun h1 => List.mem_append_left _ h1
    show (if wordH l x ∈ seen then 0 else (l.getD x ob0).f.length) = if wordH l x ∈ seen ++ [wordH l k] then 0 else (l.getD x ob0).f.length
    by_cases hh : wordH l x ∈ seen
    · rw [if_pos hh, if_pos (e.2 hh)]
    · rw [if_neg hh, if_neg fun y => hh (e.1 y)]
  rw [if_neg h, if_pos (List.mem_append_right _ List.mem_cons_self)] at this
  unfold restH
  omega
/-- what is known of a graph that is being written down -/
structure GphOK (l : List Ob) (i : Nat) (seen todo out : List Nat) : Prop where
  nodup : seen.Nodup
  obj : ∀ w ∈ seen, ∃ k, atH l w = some k
  done : ∀ j, j < i → ∀ k, atH l (todo.getD j 0) = some k → todo.getD j 0 ∈ seen
  refs : ∀ w ∈ seen, ∀ k, atH l w = some k → ∀ x ∈ refsO (l.getD k ob0), x ∈ todo
  out : OutOK out (seen.map (szW l)).sum
  le : i ≤ todo.length
theorem gph_done {l : List Ob} : ∀ (n i : Nat) (seen todo out : List Nat), GphOK l i seen todo out → todo.length - i + restH l seen ≤ n →
    ∃ todo', (∀ x ∈ todo, x ∈ todo') ∧ GphOK l todo'.length (gphH l n i seen todo out).2 todo' (gphH l n i seen todo out).1
  | 0, i, seen, todo, out, h, hn => by
    obtain rfl : i = todo.length := by have := h.le; omega
    exact ⟨todo, fun _ h => h, h⟩
  | n + 1, i, seen, todo, out, h, hn => by
    rw [gphH_succ]
    by_cases hlt : i < todo.length
    · rw [if_pos hlt]
      have hd : ∀ j, j < i + 1 → j < i ∨ j = i := fun j hj => by omega
      cases he : atH l (todo.getD i 0) with
      | none =>
        refine gph_done n (i + 1) seen todo _ ⟨h.nodup, h.obj, fun j hj k hk => ?_, h.refs, ?_, hlt⟩ (by omega)
        · rcases hd j hj with h1 | rfl
          · exact h.done j h1 k hk
          · rw [he] at hk; cases hk
        · exact h.out.snoc (.inl ⟨_, rfl, rfl⟩)
      | some k =>
        cases hj : lastI seen (todo.getD i 0) with
        | some a =>
          have hm : todo.getD i 0 ∈ seen := Decidable.not_not.1 fun hn => by rw [lastI_none.2 hn] at hj; cases hj
          refine gph_done n (i + 1) seen todo _ ⟨h.nodup, h.obj, fun j hj2 k hk => ?_, h.refs, ?_, hlt⟩ (by omega)
          · rcases hd j hj2 with h1 | rfl
            · exact h.done j h1 k hk
            · exact hm
          · exact h.out.snoc (.inr (.inl ⟨_, rfl, rfl⟩))
        | none =>
          have hm := lastI_none.1 hj
          obtain ⟨hk, hw⟩ := atH_some.1 he
          have hra := rest_add (seen := seen) hk (hw ▸ hm)
          rw [← hw] at hra
          have hnd : (seen ++ [todo.getD i 0]).Nodup := by
            rw [List.nodup_append]
            exact ⟨h.nodup, by simp, fun a ha b hb e => hm (by rw [List.mem_singleton] at hb; rw [← hb, ← e]; exact ha)⟩
          have hobj : ∀ w ∈ seen ++ [todo.getD i 0], ∃ k, atH l w = some k := fun w hw => (List.mem_append.1 hw).elim (h.obj w) fun h1 => by rw [List.mem_singleton.1 h1]; exact ⟨k, he⟩
          have hsz : szW l (todo.getD i 0) = (l.getD k ob0).f.length + 1 := by unfold szW; rw [he]; rfl
          have hsum : ((seen ++ [todo.getD i 0]).map (szW l)).sum = (seen.map (szW l)).sum + ((l.getD k ob0).f.length + 1) := by rw [List.map_append, List.sum_append]; simp only [List.map_cons, List.map_nil, List.sum_cons, List.sum_nil, hsz, Nat.add_zero]
          dsimp only
          by_cases hp : (l.getD k ob0).kind < 64
          · rw [if_pos hp]
            have hget : ∀ j, j < todo.length → (todo ++ (l.getD k ob0).f).getD j 0 = todo.getD j 0 := fun j hj => by simp [List.getD_eq_getElem?_getD, List.getElem?_append_left hj]
            have ok : GphOK l (i + 1) (seen ++ [todo.getD i 0]) (todo ++ (l.getD k ob0).f) (out ++ [2, (l.getD k ob0).kind.toNat, (l.getD k ob0).f.length]) := by
              refine ⟨hnd, hobj, fun j hj2 a ha => ?_, fun w hw2 a ha x hx => ?_, ?_, by rw [List.length_append]; omega⟩
              · rw [hget j (by omega)] at ha ⊢
                rcases hd j hj2 with h1 | rfl
                · exact List.mem_append_left _ (h.done j h1 a ha)
                · exact List.mem_append_right _ List.mem_cons_self
              · rcases List.mem_append.1 hw2 with h1 | h1
                · exact List.mem_append_left _ (h.refs w h1 a ha x hx)
                · rw [List.mem_singleton.1 h1, he] at ha
                  obtain rfl := Option.some.inj ha
                  unfold refsO at hx
                  rw [if_pos hp] at hx
                  exact List.mem_append_right _ hx
              · rw [hsum]
                exact h.out.snoc (.inr (.inr (.inl ⟨_, _, rfl, by omega, rfl⟩)))
            obtain ⟨t, h1, h2⟩ := gph_done n (i + 1) _ _ _ ok (by rw [List.length_append]; omega)
            exact ⟨t, fun x hx => h1 x (List.mem_append_left _ hx), h2⟩
          · rw [if_neg hp]
            refine gph_done n (i + 1) (seen ++ [todo.getD i 0]) todo _ ⟨hnd, hobj, fun j hj2 a ha => ?_, fun w hw2 a ha x hx => ?_, ?_, hlt⟩ (by omega)
            · rcases hd j hj2 with h1 | rfl
              · exact List.mem_append_left _ (h.done j h1 a ha)
              · exact List.mem_append_right _ List.mem_cons_self
            · rcases List.mem_append.1 hw2 with h1 | h1
              · exact h.refs w h1 a ha x hx
              · rw [List.mem_singleton.1 h1, he] at ha
                obtain rfl := Option.some.inj ha
                unfold refsO at hx
                rw [if_neg hp] at hx
                cases hx
            · rw [hsum]
              exact h.out.snoc (.inr (.inr (.inr ⟨_, _, rfl, by omega, rfl⟩)))
    · rw [if_neg hlt]
      obtain rfl : i = todo.length := by have := h.le; omega
      exact ⟨todo, fun _ h => h, h⟩
/-- as many words are written down as are used -/
theorem graph_words {l : List Ob} {roots : List Nat} (ho : orderH l roots = List.range l.length) (hn : roots.length + (l.map fun o => o.f.length).sum ≤ 3000) (n : Nat) (hl : (graphH l roots).length ≤ n) : prsH n (graphH l roots) = usedH l := by
  have hrest : restH l [] = (l.map fun o => o.f.length).sum := by
    unfold restH
    congr 1
    apply List.ext_getElem (by simp)
    intro i h1 h2
    simp [List.getD_eq_getElem?_getD, show i < l.length by simpa using h2]
  obtain ⟨t, h1, h2⟩ := gph_done (l := l) 3000 0 [] roots [] ⟨by simp, by simp, fun _ h => absurd h (Nat.not_lt_zero _), by simp, outOK_nil, Nat.zero_le _⟩ (by rw [hrest]; omega)
  have hseen : ∀ x ∈ t, ∀ k, atH l x = some k → x ∈ (gphH l 3000 0 [] roots []).2 := fun x hx k hk => by
    obtain ⟨j, hj, rfl⟩ := List.getElem_of_mem hx
    have := h2.done j hj k (by simpa [List.getD_eq_getElem?_getD, hj] using hk)
    simpa [List.getD_eq_getElem?_getD, hj] using this
  have hall : ∀ k ∈ orderH l roots, wordH l k ∈ (gphH l 3000 0 [] roots []).2 := orderH_least (fun w hw k hk => by
      have := hseen w (h1 w hw) k hk
      rwa [(atH_some.1 hk).2] at this) fun j hj w hw k hk => by
      have hjl : j < l.length := by
        obtain ⟨a, ha⟩ := h2.obj _ hj
        by_cases hjl : j < l.length
        · exact hjl
        · exfalso
          have e : l.getD j ob0 = ob0 := by simp [List.getD_eq_getElem?_getD, List.getElem?_eq_none (show l.length ≤ j by omega)]
          rw [e] at hw
          simp [refsO, ob0] at hw
      have := hseen w (h2.refs _ hj j (atH_some.2 ⟨hjl, rfl⟩) w hw) k hk
      rwa [(atH_some.1 hk).2] at this
  rw [ho] at hall
  have hs := prs_out h2.out (n := n) hl
  have e1 : ((List.range l.length).map fun k => szW l (wordH l k)).sum = usedH l := by
    rw [used_range l]
    congr 1
    refine List.map_congr_left fun k hk => ?_
    unfold szW
    rw [atH_some.2 ⟨List.mem_range.1 hk, rfl⟩]
  have hwn : ((List.range l.length).map (wordH l)).Nodup := by
    rw [List.nodup_iff_pairwise_ne, List.pairwise_map]
    refine (List.nodup_iff_pairwise_ne.1 (List.nodup_range (n := l.length))).imp_of_mem fun {a b} ha hb hne e => hne ?_
    exact wordH_inj (List.mem_range.1 ha) (List.mem_range.1 hb) e
  have s1 := sum_sub (szW l) h2.nodup (m := (List.range l.length).map (wordH l)) fun w hw => by
    obtain ⟨k, hk⟩ := h2.obj w hw
    obtain ⟨hkl, e⟩ := atH_some.1 hk
    exact List.mem_map.2 ⟨k, List.mem_range.2 hkl, e.symm⟩
  have s2 := sum_sub (szW l) hwn (m := (gphH l 3000 0 [] roots []).2) fun w hw => by
    obtain ⟨k, hk, rfl⟩ := List.mem_map.1 hw
    exact hall k hk
  rw [List.map_map] at s1 s2
  have e2 : (((List.range l.length).map (szW l ∘ wordH l))).sum = usedH l := e1
  rw [e2] at s1 s2
  unfold graphH at hl ⊢
  rw [hs]
  omega
end Go.Proofs.Ytfboejdddgedcaa
