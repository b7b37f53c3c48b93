import Derived.Test.YtfboejdddgedcaaHpQ
namespace Go.Proofs.Ytfboejdddgedcaa
/-! a Collect, step by step -/
theorem idx_pre {o t : List Nat} {k : Nat} (hk : k ∈ o) : (o ++ t).idxOf k = o.idxOf k := by rw [List.idxOf_append, if_pos hk]
theorem adrO_app (l : List Ob) (o t : List Nat) {j : Nat} (h : j ≤ o.length) : adrO l (o ++ t) j = adrO l o j := by
  unfold adrO
  rw [List.take_append_of_le_length h]
theorem adrO_pre (l : List Ob) {o p : List Nat} (h : o <+: p) {k : Nat} (hk : k ∈ o) : adrO l p (p.idxOf k) = adrO l o (o.idxOf k) := by
  obtain ⟨t, rfl⟩ := h
  rw [idx_pre hk, adrO_app l o t (Nat.le_of_lt (List.idxOf_lt_length_iff.2 hk))]
theorem reloc_pre (l : List Ob) {o p : List Nat} (h : o <+: p) {w : Nat} (hw : ∀ k, atH l w = some k → k ∈ o) : relocH l p w = relocH l o w := by
  cases he : atH l w with
  | none => rw [reloc_none he, reloc_none he]
  | some k => rw [reloc_some he, reloc_some he, adrO_pre l h (hw k he)]
/-- the heads of those that are still to be copied, and where those that were lie -/
def hdF (l : List Ob) (o : List Nat) (k : Nat) : Nat := if k ∈ o then 256 * (adrO l o (o.idxOf k) - 1) else hdK l k
theorem hdF_nil (l : List Ob) (k : Nat) : hdF l [] k = hdK l k := by simp [hdF]
theorem adrO_end (l : List Ob) (o : List Nat) : adrO l o o.length = 1 + (o.map (szI l)).sum := by unfold adrO; rw [List.take_length]
theorem idx_new {o : List Nat} {k : Nat} (hk : k ∉ o) : (o ++ [k]).idxOf k = o.length := by rw [List.idxOf_append, if_neg hk]; simp
theorem hdF_snoc (l : List Ob) {o : List Nat} {k : Nat} (hk : k ∉ o) (j : Nat) : (if j = k then 256 * (o.map (szI l)).sum else hdF l o j) = hdF l (o ++ [k]) j := by
  by_cases e : j = k
  · subst e
    rw [if_pos rfl]
    unfold hdF
    rw [if_pos (by simp), idx_new hk, adrO_app l o [j] (Nat.le_refl _), adrO_end]
    omega
  · rw [if_neg e]
    unfold hdF
    by_cases h : j ∈ o
    · rw [if_pos h, if_pos (by simp [h]), idx_pre h, adrO_app l o [k] (Nat.le_of_lt (List.idxOf_lt_length_iff.2 h))]
    · rw [if_neg h, if_neg (by simp [h, e])]
/-- what was copied so far has the sizes of what it was copied from -/
structure SpP (l : List Ob) (o : List Nat) (sp : List Ob) : Prop where
  len : sp.length = o.length
  sz : ∀ j, j < o.length → szO (sp.getD j ob0) = szI l (o.getD j 0)
theorem SpP.map {l : List Ob} {o : List Nat} {sp : List Ob} (h : SpP l o sp) : sp.map szO = o.map (szI l) := by
  apply List.ext_getElem (by simp [h.len])
  intro i h1 h2
  have hi : i < o.length := by simpa using h2
  have hi2 : i < sp.length := by simpa using h1
  have := h.sz i hi
  simpa [List.getD_eq_getElem?_getD, hi, hi2] using this
theorem SpP.used {l : List Ob} {o : List Nat} {sp : List Ob} (h : SpP l o sp) : usedH sp = (o.map (szI l)).sum := by unfold usedH; rw [h.map]
theorem SpP.adr {l : List Ob} {o : List Nat} {sp : List Ob} (h : SpP l o sp) (j : Nat) : adrH sp j = adrO l o j := by
  unfold adrH adrO usedH
  rw [List.map_take, h.map, List.map_take]
theorem SpP.le {l : List Ob} {o : List Nat} {sp : List Ob} (h : SpP l o sp) (ho : OrdH l o) : usedH sp ≤ usedH l := by
  rw [h.used, used_range l]
  exact sum_sub _ ho.1 (fun k hk => List.mem_range.2 (ho.2 k hk))
theorem SpP.room {l : List Ob} {o : List Nat} {sp : List Ob} (h : SpP l o sp) (ho : OrdH l o) {k : Nat} (hk : k < l.length) (hn : k ∉ o) : usedH sp + szI l k ≤ usedH l := by
  have h2 : OrdH l (o ++ [k]) := by
    refine ⟨?_, fun j hj => ?_⟩
    · rw [List.nodup_append]
      refine ⟨ho.1, by simp, fun a ha b hb => ?_⟩
      rw [List.mem_singleton] at hb
      rintro rfl
      exact hn (hb ▸ ha)
    · rcases List.mem_append.1 hj with h | h
      · exact ho.2 j h
      · rw [List.mem_singleton] at h; omega
  rw [h.used, used_range l]
  have := sum_sub (szI l) h2.1 (fun j hj => List.mem_range.2 (h2.2 j hj))
  simpa using this
theorem SpP.snoc {l : List Ob} {o : List Nat} {sp : List Ob} (h : SpP l o sp) (k : Nat) : SpP l (o ++ [k]) (sp ++ [l.getD k ob0]) := by
  refine ⟨by simp [h.len], fun j hj => ?_⟩
  rw [List.length_append, List.length_singleton] at hj
  by_cases e : j < o.length
  · rw [getO_app_lt (by rw [h.len]; exact e), getD_app_lt e, h.sz j e]
  · obtain rfl : j = o.length := by omega
    rw [show (sp ++ [l.getD k ob0]).getD o.length ob0 = l.getD k ob0 by rw [← h.len]; exact getO_app_one]
    rw [getD_app_ge (Nat.le_refl _)]
    simp [szI]
theorem SpP.set {l : List Ob} {o : List Nat} {sp : List Ob} (h : SpP l o sp) {i : Nat} (hi : i < sp.length) {x : Ob} (hx : szO x = szO (sp.getD i ob0)) : SpP l o (sp.set i x) := by
  refine ⟨by rw [List.length_set, h.len], fun j hj => ?_⟩
  by_cases e : i = j
  · subst e; rw [getO_set_eq hi, hx, h.sz i hj]
  · rw [getO_set_ne e, h.sz j hj]
/-- what is copied when one is come to -/
def cpyN (l : List Ob) (o : List Nat) (sp : List Ob) (k : Nat) : List Ob := if k ∈ o then sp else sp ++ [l.getD k ob0]
/-- what is copied when words are followed -/
def cpyH (l : List Ob) (o : List Nat) (sp : List Ob) (ws : List Nat) : List Ob := sp ++ ((visitH l o ws).drop o.length).map fun k => l.getD k ob0
theorem cpy_nil (l : List Ob) (o : List Nat) (sp : List Ob) : cpyH l o sp [] = sp := by simp [cpyH, visitH]
theorem visit_snoc (l : List Ob) (o ws : List Nat) (w : Nat) : visitH l o (ws ++ [w]) = addN (visitH l o ws) (atH l w) := by simp [visitH]
theorem cpy_none {l : List Ob} {o : List Nat} {sp : List Ob} {ws : List Nat} {w : Nat} (h : atH l w = none) : cpyH l o sp (ws ++ [w]) = cpyH l o sp ws := by
  unfold cpyH
  rw [visit_snoc, h]
  rfl
theorem cpy_some {l : List Ob} {o : List Nat} {sp : List Ob} {ws : List Nat} {w k : Nat} (h : atH l w = some k) : cpyH l o sp (ws ++ [w]) = cpyN l (visitH l o ws) (cpyH l o sp ws) k := by
  unfold cpyH cpyN
  rw [visit_snoc, h]
  unfold addN
  simp only
  split
  · rfl
  · have hp := (visitH_pre (l := l) ws o).length_le
    rw [List.drop_append_of_le_length hp, List.map_append, List.append_assoc]
    rfl
theorem reloc_visit {l : List Ob} {o ws : List Nat} {w k : Nat} (h : atH l w = some k) : 4 * adrO l (addN (visitH l o ws) (some k)) ((addN (visitH l o ws) (some k)).idxOf k) = relocH l (visitH l o (ws ++ [w])) w := by
  rw [visit_snoc, h, reloc_some h]
/-- words, the first of which are replaced -/
def relW (l : List Ob) (o ws : List Nat) (t : Nat) : List Nat := (ws.take t).map (relocH l (visitH l o (ws.take t))) ++ ws.drop t
theorem relW_zero (l : List Ob) (o ws : List Nat) : relW l o ws 0 = ws := by simp [relW]
theorem relW_len (l : List Ob) (o ws : List Nat) (t : Nat) : (relW l o ws t).length = ws.length := by simp [relW]; omega
theorem relW_end (l : List Ob) (o ws : List Nat) : relW l o ws ws.length = ws.map (relocH l (visitH l o ws)) := by simp [relW]
theorem relW_at (l : List Ob) (o ws : List Nat) {t : Nat} (ht : t < ws.length) : (relW l o ws t).getD t 0 = ws.getD t 0 := by
  unfold relW
  rw [getD_app_ge (by simp; omega)]
  simp [List.getD_eq_getElem?_getD, Nat.min_eq_left (Nat.le_of_lt ht)]
theorem take_succ_getD {ws : List Nat} {t : Nat} (ht : t < ws.length) : ws.take (t + 1) = ws.take t ++ [ws.getD t 0] := by
  rw [List.take_succ_eq_append_getElem ht]
  simp [List.getD_eq_getElem?_getD, ht]
theorem reloc_stable {l : List Ob} {o ws : List Nat} {w : Nat} : ∀ v ∈ ws, relocH l (visitH l o (ws ++ [w])) v = relocH l (visitH l o ws) v := fun v hv => by
  refine reloc_pre l ?_ fun k hk => (visitH_mem ws).2 (.inr ⟨v, hv, hk⟩)
  rw [visit_snoc]
  exact addN_pre _ _
theorem relW_step {l : List Ob} {o ws : List Nat} {t : Nat} (ht : t < ws.length) : relW l o ws (t + 1) = (relW l o ws t).set t (relocH l (visitH l o (ws.take (t + 1))) (ws.getD t 0)) := by
  unfold relW
  rw [take_succ_getD ht, List.map_append, List.set_append_right _ _ (by simp; omega)]
  have e : t - ((ws.take t).map (relocH l (visitH l o (ws.take t)))).length = 0 := by simp; omega
  rw [e]
  have h1 : (ws.take t).map (relocH l (visitH l o (ws.take t ++ [ws.getD t 0]))) = (ws.take t).map (relocH l (visitH l o (ws.take t))) := List.map_congr_left fun v hv => reloc_stable v hv
  rw [h1, List.append_assoc]
  congr 1
  rw [List.drop_eq_getElem_cons ht, List.set_cons_zero]
  rfl
theorem relW_none {l : List Ob} {o ws : List Nat} {t : Nat} (ht : t < ws.length) (h : atH l (ws.getD t 0) = none) : relW l o ws (t + 1) = relW l o ws t := by
  rw [relW_step ht, reloc_none h]
  apply List.ext_getElem (by simp)
  intro i h1 h2
  rw [List.getElem_set]
  split
  · rename_i e
    subst e
    have := relW_at l o ws ht
    simp [List.getD_eq_getElem?_getD, h2, ht] at this
    rw [this]
    simp [List.getD_eq_getElem?_getD, ht]
  · rfl
/-- what lies in the spare space when the first i of the order have been looked at -/
def spH (l : List Ob) (o : List Nat) (i : Nat) : List Ob := (o.take i).map (movedH l o) ++ (o.drop i).map fun k => l.getD k ob0
theorem spH_len (l : List Ob) (o : List Nat) (i : Nat) : (spH l o i).length = o.length := by simp [spH]; omega
theorem spH_end (l : List Ob) (o : List Nat) : spH l o o.length = newH l o := by simp [spH, newH]
theorem spH_start (l : List Ob) (ws : List Nat) : cpyH l [] [] ws = spH l (visitH l [] ws) 0 := by simp [cpyH, spH]
theorem spH_at (l : List Ob) {o : List Nat} {i : Nat} (hi : i < o.length) : (spH l o i).getD i ob0 = l.getD (o.getD i 0) ob0 := by
  unfold spH
  rw [List.getD_eq_getElem?_getD, List.getElem?_append_right (by simp; omega)]
  simp [List.getD_eq_getElem?_getD, Nat.min_eq_left (Nat.le_of_lt hi), hi]
/-- what the first i lead to is in the order -/
def ClosI (l : List Ob) (o : List Nat) (i : Nat) : Prop := ∀ j, j < i → ∀ w ∈ refsO (l.getD (o.getD j 0) ob0), ∀ k, atH l w = some k → k ∈ o
theorem moved_pre {l : List Ob} {o p : List Nat} (h : o <+: p) {k : Nat} (hc : ∀ w ∈ refsO (l.getD k ob0), ∀ j, atH l w = some j → j ∈ o) : movedH l p k = movedH l o k := by
  unfold movedH
  by_cases e : (l.getD k ob0).kind < 64
  · rw [if_pos e, if_pos e]
    congr 1
    refine List.map_congr_left fun w hw => reloc_pre l h fun j hj => hc w ?_ j hj
    unfold refsO
    rw [if_pos e]; exact hw
  · rw [if_neg e, if_neg e]
theorem getD_pre {o p : List Nat} (h : o <+: p) {j : Nat} (hj : j < o.length) : p.getD j 0 = o.getD j 0 := by
  obtain ⟨t, rfl⟩ := h
  exact getD_app_lt hj
theorem take_pre {o p : List Nat} (h : o <+: p) {i : Nat} (hi : i ≤ o.length) : p.take i = o.take i := by
  obtain ⟨t, rfl⟩ := h
  exact List.take_append_of_le_length hi
/-- one that is not plain has been looked at -/
theorem spH_step {l : List Ob} {o : List Nat} {i : Nat} (hi : i < o.length) (hc : ClosI l o i) (hk : (l.getD (o.getD i 0) ob0).kind < 64) :
    cpyH l o ((spH l o i).set i ⟨(l.getD (o.getD i 0) ob0).kind, (l.getD (o.getD i 0) ob0).f.map (relocH l (visitH l o (l.getD (o.getD i 0) ob0).f))⟩) (l.getD (o.getD i 0) ob0).f = spH l (visitH l o (refsO (l.getD (o.getD i 0) ob0))) (i + 1) := by
  have hr : refsO (l.getD (o.getD i 0) ob0) = (l.getD (o.getD i 0) ob0).f := by unfold refsO; rw [if_pos hk]
  rw [hr]
  obtain ⟨p, hp⟩ : ∃ p, p = visitH l o (l.getD (o.getD i 0) ob0).f := ⟨_, rfl⟩
  have hpre : o <+: p := by rw [hp]; exact visitH_pre _ o
  unfold cpyH
  rw [← hp]
  have hpl := hpre.length_le
  have e1 : p.take (i + 1) = o.take i ++ [o.getD i 0] := by rw [take_pre hpre hi, take_succ_getD hi]
  have e2 : p.drop (i + 1) = o.drop (i + 1) ++ p.drop o.length := by
    obtain ⟨t, rfl⟩ := hpre
    rw [List.drop_append_of_le_length hi, List.drop_left]
  have e3 : (o.take i).map (movedH l p) = (o.take i).map (movedH l o) := by
    refine List.map_congr_left fun _ hk2 => moved_pre hpre fun w hw j hj => ?_
    obtain ⟨n, hn, rfl⟩ := List.getElem_of_mem hk2
    have hn2 : n < i := by simp at hn; omega
    refine hc n hn2 w ?_ j hj
    simpa [List.getD_eq_getElem?_getD, show n < o.length by omega] using hw
  have e4 : movedH l p (o.getD i 0) = ⟨(l.getD (o.getD i 0) ob0).kind, (l.getD (o.getD i 0) ob0).f.map (relocH l p)⟩ := by unfold movedH; rw [if_pos hk]
  unfold spH
  rw [e1, e2, List.map_append, e3, List.map_append, List.set_append_right _ _ (by simp; omega)]
  have e5 : i - ((o.take i).map (movedH l o)).length = 0 := by simp; omega
  rw [e5, List.drop_eq_getElem_cons hi]
  simp only [List.map_cons, List.map_nil, List.set_cons_zero, List.append_assoc, List.cons_append, List.nil_append]
  rw [e4]
/-- a plain one has been looked at -/
theorem spH_plain {l : List Ob} {o : List Nat} {i : Nat} (hi : i < o.length) (hk : ¬ (l.getD (o.getD i 0) ob0).kind < 64) : spH l o i = spH l (visitH l o (refsO (l.getD (o.getD i 0) ob0))) (i + 1) := by
  have hr : refsO (l.getD (o.getD i 0) ob0) = [] := by unfold refsO; rw [if_neg hk]
  rw [hr]
  show _ = spH l o (i + 1)
  unfold spH
  rw [take_succ_getD hi, List.map_append, List.drop_eq_getElem_cons hi]
  have e : movedH l o (o.getD i 0) = l.getD (o.getD i 0) ob0 := by unfold movedH; rw [if_neg hk]
  simp only [List.map_cons, List.map_nil, List.append_assoc, List.cons_append, List.nil_append]
  rw [e]
  simp [List.getD_eq_getElem?_getD, hi]
theorem closI_step {l : List Ob} {o : List Nat} {i : Nat} (hi : i < o.length) (hc : ClosI l o i) : ClosI l (visitH l o (refsO (l.getD (o.getD i 0) ob0))) (i + 1) := by
  intro j hj w hw k hk
  have hp := visitH_pre (l := l) (refsO (l.getD (o.getD i 0) ob0)) o
  rw [getD_pre hp (by omega)] at hw
  rcases Nat.lt_or_ge j i with h1 | h1
  · exact hp.subset (hc j h1 w hw k hk)
  · obtain rfl : j = i := by omega
    exact (visitH_mem _).2 (.inr ⟨w, hw, hk⟩)
/-- where a Collect stands when the first i have been looked at -/
structure ColI (l : List Ob) (roots o : List Nat) (i : Nat) : Prop where
  ord : OrdH l o
  le : i ≤ o.length
  clos : ClosI l o i
  rest : bfsH l (l.length - i) i o = orderH l roots
  pre : visitH l [] roots <+: o
theorem ColI.start (l : List Ob) (roots : List Nat) : ColI l roots (visitH l [] roots) 0 := ⟨visitH_ord _ (ord_nil l), Nat.zero_le _, fun _ hj => absurd hj (Nat.not_lt_zero _), rfl, List.prefix_rfl⟩
theorem ColI.step {l : List Ob} {roots o : List Nat} {i : Nat} (h : ColI l roots o i) (hi : i < o.length) : ColI l roots (visitH l o (refsO (l.getD (o.getD i 0) ob0))) (i + 1) := by
  have hp := visitH_pre (l := l) (refsO (l.getD (o.getD i 0) ob0)) o
  have hl := ord_len h.ord
  refine ⟨visitH_ord _ h.ord, by have := hp.length_le; omega, closI_step hi h.clos, ?_, h.pre.trans hp⟩
  have hr := h.rest
  rw [show l.length - i = (l.length - (i + 1)) + 1 by omega, bfsH_succ, if_pos hi] at hr
  exact hr
theorem ColI.done {l : List Ob} {roots o : List Nat} {i : Nat} (h : ColI l roots o i) (hi : o.length ≤ i) : o = orderH l roots ∧ i = o.length := by
  have hr := h.rest
  have := h.le
  refine ⟨?_, by omega⟩
  cases hn : l.length - i with
  | zero => rw [hn] at hr; exact hr
  | succ n => rw [hn, bfsH_succ, if_neg (by omega)] at hr; exact hr
theorem ColI.roots {l : List Ob} {roots o : List Nat} {i : Nat} (h : ColI l roots o i) : roots.map (relocH l (visitH l [] roots)) = roots.map (relocH l o) :=
  List.map_congr_left fun w hw => (reloc_pre l h.pre fun _ hk => (visitH_mem roots).2 (.inr ⟨w, hw, hk⟩)).symm
end Go.Proofs.Ytfboejdddgedcaa
