import Derived.Test.YtlalnkabfigodaaDoorCoF
namespace Go.Proofs.YtlalnkabfigodaaDoor
open Go.RowKit

def OwnS (c : Co) : Prop := (0 ≤ c.h.pair ∧ c.h.pair ≤ 3) ∧ (0 ≤ c.h.fn ∧ c.h.fn ≤ 3) ∧ (c.pairs.length : Int) = wantC c.h.pair ∧ (c.h.fn ≠ 2 → c.funs.length = 0) ∧ (c.h.fn = 2 → 1 ≤ c.funs.length ∧ c.funs.length ≤ 9)
instance (c : Co) : Decidable (OwnS c) := by unfold OwnS; infer_instance
def shpC : Nat → Co → Bool
 | 0, _ => false
 | n + 1, c => decide (OwnS c) && c.pairs.all (shpC n) && c.funs.all (shpC n)
theorem shpC_succ (n : Nat) (c : Co) : shpC (n + 1) c = (decide (OwnS c) && c.pairs.all (shpC n) && c.funs.all (shpC n)) := rfl
/-- of which parts can be taken, all the way down -/
def Shape (c : Co) : Prop := ∃ n, shpC n c = true
theorem Shape.own {c : Co} (h : Shape c) : OwnS c := by
 obtain ⟨n, h⟩ := h
 cases n with
 | zero => cases h
 | succ n => rw [shpC_succ, Bool.and_eq_true, Bool.and_eq_true, decide_eq_true_eq] at h; exact h.1.1
theorem Shape.pair {c d : Co} (h : Shape c) (hd : d ∈ c.pairs) : Shape d := by
 obtain ⟨n, h⟩ := h
 cases n with
 | zero => cases h
 | succ n => rw [shpC_succ, Bool.and_eq_true, Bool.and_eq_true, List.all_eq_true] at h; exact ⟨n, h.1.2 d hd⟩
theorem Shape.fun {c d : Co} (h : Shape c) (hd : d ∈ c.funs) : Shape d := by
 obtain ⟨n, h⟩ := h
 cases n with
 | zero => cases h
 | succ n => rw [shpC_succ, Bool.and_eq_true, Bool.and_eq_true, List.all_eq_true, List.all_eq_true] at h; exact ⟨n, h.2 d hd⟩
theorem shpC_mono {n : Nat} : ∀ {c : Co}, shpC n c = true → ∀ m, n ≤ m → shpC m c = true := by
 induction n with
 | zero => intro c h; cases h
 | succ n ih =>
  intro c h m hm
  obtain ⟨m, rfl⟩ : ∃ k, m = k + 1 := ⟨m - 1, by omega⟩
  rw [shpC_succ, Bool.and_eq_true, Bool.and_eq_true, List.all_eq_true, List.all_eq_true] at h ⊢
  exact ⟨⟨h.1.1, fun x hx => ih (h.1.2 x hx) m (by omega)⟩, fun x hx => ih (h.2 x hx) m (by omega)⟩
theorem Shape.deep {c : Co} (h : Shape c) : shpC (htC c) c = true := by
 induction c using co_ind with
 | h c h1 h2 =>
  rw [htC_eq, shpC_succ, decide_eq_true h.own, Bool.true_and, Bool.and_eq_true, List.all_eq_true, List.all_eq_true]
  refine ⟨fun x hx => shpC_mono (h1 x hx (h.pair hx)) _ ?_, fun x hx => shpC_mono (h2 x hx (h.fun hx)) _ ?_⟩
  ·
   have := htCs_mem hx; omega
  ·
   have := htCs_mem hx; omega
theorem Shape.mk {c : Co} (h : OwnS c) (hp : ∀ x ∈ c.pairs, Shape x) (hf : ∀ x ∈ c.funs, Shape x) : Shape c := by
 refine ⟨htC c, ?_⟩
 rw [htC_eq, shpC_succ, decide_eq_true h, Bool.true_and, Bool.and_eq_true, List.all_eq_true, List.all_eq_true]
 refine ⟨fun x hx => shpC_mono (hp x hx).deep _ ?_, fun x hx => shpC_mono (hf x hx).deep _ ?_⟩
 ·
  have := htCs_mem hx; omega
 ·
  have := htCs_mem hx; omega
theorem okC.shape {c : Co} (h : okC c) : Shape c := by
 induction c using co_ind with
 | h c h1 h2 => exact Shape.mk (headC_own h.head) (fun x hx => h1 x hx (h.pair hx)) fun x hx => h2 x hx (h.fun hx)
theorem Shape.thin {c : Co} (h : Shape c) : Thin c := by
 induction c using co_ind with
 | h c h1 h2 =>
  obtain ⟨h3, h4, h5, h6, h7⟩ := h.own
  refine Thin.mk ⟨?_, ?_⟩ (fun x hx => h1 x hx (h.pair hx)) fun x hx => h2 x hx (h.fun hx)
  ·
   unfold wantC at h5; split at h5
   ·
    omega
   ·
    split at h5 <;> omega
  ·
   by_cases e : c.h.fn = 2
   ·
    have := h7 e; omega
   ·
    have := h6 e; omega
theorem shape_co0 : Shape co0 := Shape.mk ⟨by decide, by decide, rfl, fun _ => rfl, fun h => by cases h⟩ (by simp [co0, Co.pairs]) (by simp [co0, Co.funs])
theorem shape_lists {c : Co} (h : Shape c) (l : Int) : Shape (listsC c l) := by
 unfold listsC
 split
 ·
  exact shape_co0
 ·
  refine Shape.mk ⟨(by decide : (0 : Int) ≤ 3 ∧ (3 : Int) ≤ 3), ?_, rfl, fun _ => rfl, fun h => ?_⟩ (fun x hx => ?_) (fun x hx => by cases hx)
  ·
   show 0 ≤ (if l ≠ 0 then 1 else 0 : Int) ∧ (if l ≠ 0 then 1 else 0 : Int) ≤ 3
   split <;> omega
  ·
   have h2 : (if l ≠ 0 then 1 else 0 : Int) = 2 := h
   split at h2 <;> omega
  ·
   have hx2 : x ∈ [c] := hx
   rw [List.mem_singleton.1 hx2]; exact h
theorem htC_lists (c : Co) (l : Int) : htC (listsC c l) ≤ htC c + 1 := by
 unfold listsC
 split
 ·
  show htC co0 ≤ _
  have : htC co0 = 1 := by rw [htC_eq]; rfl
  omega
 ·
  rw [htC_eq]
  show max (htCs [c]) (htCs []) + 1 ≤ _
  simp only [htCs]; omega
theorem plen1 {c : Co} (h : Shape c) (h2 : 2 ≤ c.h.pair) : 1 ≤ c.pairs.length ∧ (c.h.pair = 2 → 2 ≤ c.pairs.length) := by
 obtain ⟨h3, _, h5, _⟩ := h.own
 unfold wantC at h5
 split at h5
 ·
  omega
 ·
  split at h5
  ·
   omega
  ·
   omega
theorem shape_car {c : Co} (h : Shape c) (h2 : 2 ≤ c.h.pair) : Shape (carC c) ∧ htC (carC c) < htC c := by
 unfold carC
 rw [if_neg (by omega)]
 have hm := getC_mem (l := c.pairs) (j := 0) (by have := (plen1 h h2).1; omega)
 exact ⟨h.pair hm, htC_pairs hm⟩
theorem shape_cdr {c : Co} (h : Shape c) (h2 : 2 ≤ c.h.pair) : Shape (cdrC c) ∧ htC (cdrC c) ≤ htC c ∧ (c.h.pair = 2 → htC (cdrC c) < htC c) := by
 unfold cdrC
 rw [if_neg (by omega)]
 by_cases h3 : c.h.pair = 2
 ·
  rw [if_pos h3]
  have hm := getC_mem (l := c.pairs) (j := 1) (by have := (plen1 h h2).2 h3; omega)
  exact ⟨h.pair hm, Nat.le_of_lt (htC_pairs hm), fun _ => htC_pairs hm⟩
 ·
  rw [if_neg h3]
  have hm := getC_mem (l := c.pairs) (j := 0) (by have := (plen1 h h2).1; omega)
  have h4 := htC_pairs hm
  have h5 := htC_lists (c.pairs.getD 0 co0) c.h.pl
  exact ⟨shape_lists (h.pair hm) _, by omega, fun h => absurd h h3⟩
/-- what is put together has parts as well -/
theorem shape_comp : ∀ (n : Nat) (c d : Co), Shape c → Shape d → Shape (compF n c d) := by
 intro n
 induction n with
 | zero => intro c d _ _; exact shape_co0
 | succ n ih =>
  intro c d hc hd
  obtain ⟨k1, k2, k3, k4, k5⟩ := hc.own
  obtain ⟨l1, l2, l3, l4, l5⟩ := hd.own
  rw [compF]
  obtain ⟨x, hx, hxs⟩ : ∃ x, x = (if c.h.pair ≠ 1 ∧ d.h.pair ≠ 0 then d else c) ∧ Shape x := ⟨_, rfl, by split <;> assumption⟩
  obtain ⟨y, hy, hys⟩ : ∃ y, y = (if c.h.fn ≠ 1 ∧ d.h.fn ≠ 0 then d else c) ∧ Shape y := ⟨_, rfl, by split <;> assumption⟩
  obtain ⟨x1, _, x3, _⟩ := hxs.own
  obtain ⟨_, y2, _, y4, y5⟩ := hys.own
  simp only [← hx, ← hy]
  have hP : ∀ (f0 f1 f2 f3 f4 f5 p pl fn fl : Int) (ps fs : List Co), ((0 ≤ p ∧ p ≤ 3) ∧ (ps.length : Int) = wantC p) → ((0 ≤ fn ∧ fn ≤ 3) ∧ (fn ≠ 2 → fs.length = 0) ∧ (fn = 2 → 1 ≤ fs.length ∧ fs.length ≤ 9)) → (∀ z ∈ ps, Shape z) → (∀ z ∈ fs, Shape z) → Shape (.mk ⟨f0, f1, f2, f3, f4, f5, p, pl, fn, fl⟩ ps fs) :=
   fun f0 f1 f2 f3 f4 f5 p pl fn fl ps fs a b hz hw => Shape.mk ⟨a.1, b.1, a.2, b.2.1, b.2.2⟩ hz hw
  refine hP _ _ _ _ _ _ _ _ _ _ _ _ ?_ ?_ ?_ ?_
  ·
   by_cases hp : 2 ≤ c.h.pair ∧ 2 ≤ d.h.pair
   ·
    rw [if_pos (decide_eq_true hp), if_pos (decide_eq_true hp)]
    by_cases hl : c.h.pair = 3 ∧ d.h.pair = 3
    ·
     rw [if_pos (decide_eq_true hl), if_pos (decide_eq_true hl)]; exact ⟨by omega, rfl⟩
    ·
     rw [if_neg (by simp [hl]), if_neg (by simp [hl])]; exact ⟨by omega, rfl⟩
   ·
    rw [if_neg (by simp [hp]), if_neg (by simp [hp])]; exact ⟨x1, x3⟩
  ·
   by_cases hp : 2 ≤ c.h.fn ∧ 2 ≤ d.h.fn
   ·
    rw [if_pos (decide_eq_true hp), if_pos (decide_eq_true hp)]
    by_cases hl : c.h.fn = 2 ∧ d.h.fn = 2 ∧ c.funs.length = d.funs.length
    ·
     have := k5 hl.1
     rw [if_pos (decide_eq_true hl), if_pos (decide_eq_true hl)]
     refine ⟨by omega, fun h => absurd rfl h, fun _ => ?_⟩
     simp only [List.length_append, List.length_map, List.length_range, List.length_cons, List.length_nil]; omega
    ·
     rw [if_neg (by simpa using hl), if_neg (by simpa using hl)]; exact ⟨by omega, fun _ => rfl, fun h => by omega⟩
   ·
    rw [if_neg (by simpa using hp), if_neg (by simpa using hp)]; exact ⟨y2, y4, y5⟩
  ·
   intro z hz
   by_cases hp : 2 ≤ c.h.pair ∧ 2 ≤ d.h.pair
   ·
    have sp := ih _ _ (shape_car hc hp.1).1 (shape_car hd hp.2).1
    have sq := ih _ _ (shape_cdr hc hp.1).1 (shape_cdr hd hp.2).1
    rw [if_pos (decide_eq_true hp)] at hz
    split at hz
    ·
     rw [List.mem_singleton.1 hz]; exact sp
    ·
     rcases List.mem_cons.1 hz with rfl | hz
     ·
      exact sp
     ·
      rw [List.mem_singleton.1 hz]; exact sq
   ·
    rw [if_neg (by simp [hp])] at hz
    exact hxs.pair hz
  ·
   intro z hz
   by_cases hp : 2 ≤ c.h.fn ∧ 2 ≤ d.h.fn
   ·
    rw [if_pos (decide_eq_true hp)] at hz
    by_cases hl : c.h.fn = 2 ∧ d.h.fn = 2 ∧ c.funs.length = d.funs.length
    ·
     have h9 := k5 hl.1
     rw [if_pos (decide_eq_true hl)] at hz
     rcases List.mem_append.1 hz with hz | hz
     ·
      obtain ⟨i, hi, rfl⟩ := List.mem_map.1 hz
      have hi := List.mem_range.1 hi
      exact ih _ _ (hd.fun (getC_mem (by omega))) (hc.fun (getC_mem (by omega)))
     ·
      rw [List.mem_singleton.1 hz]
      exact ih _ _ (hc.fun (getC_mem (by omega))) (hd.fun (getC_mem (by omega)))
    ·
     rw [if_neg (by simpa using hl)] at hz
     cases hz
   ·
    rw [if_neg (by simpa using hp)] at hz
    exact hys.fun hz
end Go.Proofs.YtlalnkabfigodaaDoor
