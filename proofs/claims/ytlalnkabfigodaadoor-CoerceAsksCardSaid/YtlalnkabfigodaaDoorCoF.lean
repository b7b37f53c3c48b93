import Derived.Test.YtlalnkabfigodaaDoorCoP
namespace Go.Proofs.YtlalnkabfigodaaDoor
open Go.RowKit

theorem sumK_ge (n : Nat) : ∀ (l : List Co) (a : Nat), a ≤ sumK n a l
 | [], a => Nat.le_refl a
 | d :: r, a => by
  rw [sumK_cons]
  refine Nat.le_trans ?_ (sumK_ge n r _)
  split <;> omega
theorem sumK_exact (n : Nat) (ih : ∀ c, sizeK n c < 1000 → sizeK n c = szC c) : ∀ (l : List Co) (a : Nat), sumK n a l < 1000 → sumK n a l = a + szCs l
 | [], a, _ => rfl
 | d :: r, a, h => by
  rw [sumK_cons] at h ⊢
  by_cases ha : a < 1000
  ·
   rw [if_pos ha] at h ⊢
   have h1 := sumK_ge n r (a + sizeK n d)
   rw [sumK_exact n ih r _ h, ih d (by omega), szCs]; omega
  ·
   rw [if_neg ha] at h
   have h1 := sumK_ge n r a
   omega
theorem sizeK_exact (n : Nat) : ∀ c, sizeK n c < 1000 → sizeK n c = szC c := by
 induction n with
 | zero => intro c h; exact absurd h (by show ¬ 1000 < 1000; omega)
 | succ n ih =>
  intro c h
  rw [sizeK_succ] at h ⊢
  have h2 : sumK n (sumK n 1 c.pairs) c.funs < 1000 := by omega
  have h1 : sumK n 1 c.pairs < 1000 := Nat.lt_of_le_of_lt (sumK_ge n c.funs _) h2
  rw [sumK_exact n ih _ _ h2, sumK_exact n ih _ _ h1, szC_eq]
  rw [sumK_exact n ih _ _ h2, sumK_exact n ih _ _ h1] at h2
  omega
/-- a light one is small -/
theorem light_szC {c : Co} (h : lightC c = true) : szC c < 150 := by
 unfold lightC at h
 rw [decide_eq_true_eq] at h
 rw [← sizeK_exact 60 c (by omega)]; exact h

theorem eith_self (a : Int) : eithC a a = a := by unfold eithC; split <;> rfl
theorem list1 {l : List Co} (h : l.length = 1) : l = [l.getD 0 co0] := by
 match l, h with
 | [a], _ => rfl
theorem list2 {l : List Co} (h : l.length = 2) : l = [l.getD 0 co0, l.getD 1 co0] := by
 match l, h with
 | [a, b], _ => rfl
theorem range_self (l : List Co) (h : 1 ≤ l.length) : ((List.range (l.length - 1)).map fun i => l.getD i co0) ++ [l.getD (l.length - 1) co0] = l := by
 refine List.ext_getElem ?_ fun i h1 h2 => ?_
 ·
  simp; omega
 ·
  rw [List.getElem_append]
  split
  ·
   simp [List.getD_eq_getElem?_getD, h2]
  ·
   rename_i h3
   simp only [List.length_map, List.length_range] at h3
   have e : i = l.length - 1 := by simp at h1; omega
   subst e
   simp [List.getD_eq_getElem?_getD, h2]
/-- composed with itself one is as it was -/
theorem comp_self : ∀ (n : Nat) (c : Co), okC c → htC c ≤ n → compF n c c = c := by
 intro n
 induction n with
 | zero => intro c _ h; have := htC_pos c; omega
 | succ n ih =>
  intro c hc hn
  have hh := hc.head
  obtain ⟨k1, k2, k3, k4, k5⟩ := headC_own hh
  unfold headC at hh
  rw [decide_eq_true_eq] at hh
  obtain ⟨_, _, _, _, _, _, _, _, _, _, _, _, kpl, _, _, _, _⟩ := hh
  have hp : ∀ j, j < c.pairs.length → compF n (c.pairs.getD j co0) (c.pairs.getD j co0) = c.pairs.getD j co0 := fun j hj => ih _ (hc.pair (getC_mem hj)) (by have := htC_pairs (getC_mem hj); omega)
  have hf : ∀ j, j < c.funs.length → compF n (c.funs.getD j co0) (c.funs.getD j co0) = c.funs.getD j co0 := fun j hj => ih _ (hc.fun (getC_mem hj)) (by have := htC_funs (getC_mem hj); omega)
  have hcar : 2 ≤ c.h.pair → compF n (carC c) (carC c) = carC c := fun h2 => by
   have hl : 0 < c.pairs.length := by unfold wantC at k3; split at k3 <;> (try split at k3) <;> omega
   unfold carC; rw [if_neg (by omega)]; exact hp 0 hl
  have hcdr : c.h.pair = 2 → compF n (cdrC c) (cdrC c) = cdrC c := fun h2 => by
   have hl : 1 < c.pairs.length := by unfold wantC at k3; rw [if_pos h2] at k3; omega
   unfold cdrC; rw [if_neg (by omega), if_pos h2]; exact hp 1 hl
  have hx : (if c.h.pair ≠ 1 ∧ c.h.pair ≠ 0 then c else c) = c := by split <;> rfl
  have hy : (if c.h.fn ≠ 1 ∧ c.h.fn ≠ 0 then c else c) = c := by split <;> rfl
  have e1 : (if decide (2 ≤ c.h.pair ∧ 2 ≤ c.h.pair) = true then (if decide (c.h.pair = 3 ∧ c.h.pair = 3) = true then (3 : Int) else 2) else c.h.pair) = c.h.pair := by
   by_cases h2 : 2 ≤ c.h.pair
   ·
    rw [if_pos (decide_eq_true ⟨h2, h2⟩)]
    by_cases h3 : c.h.pair = 3
    ·
     rw [if_pos (decide_eq_true ⟨h3, h3⟩), h3]
    ·
     rw [if_neg (by simp [h3])]; omega
   ·
    rw [if_neg (by simp [h2])]
  have e2 : (if decide (2 ≤ c.h.pair ∧ 2 ≤ c.h.pair) = true then (if decide (c.h.pair = 3 ∧ c.h.pair = 3) = true then eithC c.h.pl c.h.pl else 0) else c.h.pl) = c.h.pl := by
   by_cases h2 : 2 ≤ c.h.pair
   ·
    rw [if_pos (decide_eq_true ⟨h2, h2⟩)]
    by_cases h3 : c.h.pair = 3
    ·
     rw [if_pos (decide_eq_true ⟨h3, h3⟩), eith_self]
    ·
     rw [if_neg (by simp [h3])]; exact (kpl (.inr (by omega))).symm
   ·
    rw [if_neg (by simp [h2])]
  have e3 : (if decide (2 ≤ c.h.fn ∧ 2 ≤ c.h.fn) = true then (if decide (c.h.fn = 2 ∧ c.h.fn = 2 ∧ c.funs.length = c.funs.length) = true then (2 : Int) else 3) else c.h.fn) = c.h.fn := by
   by_cases h2 : 2 ≤ c.h.fn
   ·
    rw [if_pos (decide_eq_true ⟨h2, h2⟩)]
    by_cases h3 : c.h.fn = 2
    ·
     rw [if_pos (decide_eq_true ⟨h3, h3, rfl⟩), h3]
    ·
     rw [if_neg (by simp [h3])]; omega
   ·
    rw [if_neg (by simp [h2])]
  have e4 : (if decide (2 ≤ c.h.pair ∧ 2 ≤ c.h.pair) = true then (if decide (c.h.pair = 3 ∧ c.h.pair = 3) = true then [compF n (carC c) (carC c)] else [compF n (carC c) (carC c), compF n (cdrC c) (cdrC c)]) else c.pairs) = c.pairs := by
   by_cases h2 : 2 ≤ c.h.pair
   ·
    rw [if_pos (decide_eq_true ⟨h2, h2⟩)]
    by_cases h3 : c.h.pair = 3
    ·
     have hl : c.pairs.length = 1 := by unfold wantC at k3; rw [if_neg (by omega), if_pos h3] at k3; omega
     rw [if_pos (decide_eq_true ⟨h3, h3⟩), hcar h2, carC, if_neg (by omega)]
     exact (list1 hl).symm
    ·
     have hp2 : c.h.pair = 2 := by omega
     have hl : c.pairs.length = 2 := by unfold wantC at k3; rw [if_pos hp2] at k3; omega
     rw [if_neg (by simp [h3]), hcar h2, hcdr hp2, carC, if_neg (by omega), cdrC, if_neg (by omega), if_pos hp2]
     exact (list2 hl).symm
   ·
    rw [if_neg (by simp [h2])]
  have e5 : (if decide (2 ≤ c.h.fn ∧ 2 ≤ c.h.fn) = true then (if decide (c.h.fn = 2 ∧ c.h.fn = 2 ∧ c.funs.length = c.funs.length) = true then ((List.range (c.funs.length - 1)).map fun i => compF n (c.funs.getD i co0) (c.funs.getD i co0)) ++ [compF n (c.funs.getD (c.funs.length - 1) co0) (c.funs.getD (c.funs.length - 1) co0)] else []) else c.funs) = c.funs := by
   by_cases h2 : 2 ≤ c.h.fn
   ·
    rw [if_pos (decide_eq_true ⟨h2, h2⟩)]
    by_cases h3 : c.h.fn = 2
    ·
     have hl := k5 h3
     rw [if_pos (decide_eq_true ⟨h3, h3, rfl⟩), hf _ (by omega)]
     have em : ((List.range (c.funs.length - 1)).map fun i => compF n (c.funs.getD i co0) (c.funs.getD i co0)) = (List.range (c.funs.length - 1)).map fun i => c.funs.getD i co0 :=
      List.map_congr_left fun i hi => hf i (by have := List.mem_range.1 hi; omega)
     rw [em]
     exact range_self _ hl.1
    ·
     rw [if_neg (by simp [h3])]
     exact (List.length_eq_zero_iff.1 (k4 h3)).symm
   ·
    rw [if_neg (by simp [h2])]
  have key : compF (n + 1) c c = .mk ⟨eithC c.h.f0 c.h.f0, eithC c.h.f1 c.h.f1, eithC c.h.f2 c.h.f2, eithC c.h.f3 c.h.f3, eithC c.h.f4 c.h.f4, eithC c.h.f5 c.h.f5, c.h.pair, c.h.pl, c.h.fn, c.h.fl⟩ c.pairs c.funs := by
   rw [compF]
   rw [hx, hy, e1, e2, e3, e4, e5]
  rw [key]
  simp only [eith_self]
  exact (Co.eta c).symm
theorem goC_zero (b : Bool) (t : Ty) (l : Int) : goC 0 b t l = co0 := by cases b <;> rfl
theorem bitF_rng (f b : Int) {l : Int} (h1 : 1 ≤ l) (h9 : l ≤ 99) : rng (bitF f b l) := by unfold bitF rng; split <;> omega
theorem rng0 : rng 0 := by unfold rng; omega
theorem allC_nil : allC [] = true := rfl
theorem pair_true {l : Int} (h1 : 1 ≤ l) (h9 : l ≤ 99) {p : Int} (p0 : 0 ≤ p) (p1 : p ≤ 2) {P : List Co} (l1 : p = 1 → P.length = 2) (l2 : p = 2 → P.length = 1) :
  let q := if p = 0 then 1 else if p = 1 then (if allC P = true then 0 else 2) else (3 : Int)
  let pl := if p = 0 ∨ p = 2 then l else 0
  let ps := if p = 0 ∨ p = 1 ∧ allC P = true then [] else P
  (0 ≤ q ∧ q ≤ 3) ∧ rng pl ∧ (ps.length : Int) = wantC q ∧ (q = 1 → pl ≠ 0) ∧ (q = 0 ∨ q = 2 → pl = 0) ∧ ¬ (2 ≤ q ∧ allC ps = true ∧ pl = 0) := by
 intro q pl ps
 obtain h | h | h : p = 0 ∨ p = 1 ∨ p = 2 := by omega
 ·
  have e1 : q = 1 := by simp [q, h]
  have e2 : pl = l := by simp [pl, h]
  have e3 : ps = [] := by simp [ps, h]
  rw [e1, e2, e3]
  refine ⟨by omega, by unfold rng; omega, rfl, fun _ => by omega, fun h => by omega, fun h => by omega⟩
 ·
  have e2 : pl = 0 := by simp [pl, h]
  cases hA : allC P
  ·
   have e1 : q = 2 := by simp [q, h, hA]
   have e3 : ps = P := by simp [ps, h, hA]
   rw [e1, e2, e3]
   refine ⟨by omega, rng0, by rw [l1 h]; rfl, fun h => by omega, fun _ => rfl, fun h => by rw [hA] at h; exact absurd h.2.1 (by simp)⟩
  ·
   have e1 : q = 0 := by simp [q, h, hA]
   have e3 : ps = [] := by simp [ps, h, hA]
   rw [e1, e2, e3]
   refine ⟨by omega, rng0, rfl, fun h => by omega, fun _ => rfl, fun h => by omega⟩
 ·
  have e1 : q = 3 := by simp [q, h]
  have e2 : pl = l := by simp [pl, h]
  have e3 : ps = P := by simp [ps, h]
  rw [e1, e2, e3]
  refine ⟨by omega, by unfold rng; omega, by rw [l2 h]; rfl, fun h => by omega, fun h => by omega, fun h => by omega⟩
theorem pair_false {p : Int} (p0 : 0 ≤ p) (p1 : p ≤ 2) {P : List Co} (l1 : p = 1 → P.length = 2) (l2 : p = 2 → P.length = 1) :
  let q := if p = 0 then 0 else if allC P = true then 0 else if p = 1 then 2 else (3 : Int)
  let ps := if p = 0 ∨ allC P = true then [] else P
  (0 ≤ q ∧ q ≤ 3) ∧ (ps.length : Int) = wantC q ∧ (q = 1 → (0 : Int) ≠ 0) ∧ ¬ (2 ≤ q ∧ allC ps = true ∧ (0 : Int) = 0) := by
 intro q ps
 cases hA : allC P
 ·
  obtain h | h | h : p = 0 ∨ p = 1 ∨ p = 2 := by omega
  ·
   have e1 : q = 0 := by simp [q, h]
   have e3 : ps = [] := by simp [ps, h]
   rw [e1, e3]
   refine ⟨by omega, rfl, fun h => by omega, fun h => by omega⟩
  ·
   have e1 : q = 2 := by simp [q, h, hA]
   have e3 : ps = P := by simp [ps, h, hA]
   rw [e1, e3]
   refine ⟨by omega, by rw [l1 h]; rfl, fun h => by omega, fun h => by rw [hA] at h; exact absurd h.2.1 (by simp)⟩
  ·
   have e1 : q = 3 := by simp [q, h, hA]
   have e3 : ps = P := by simp [ps, h, hA]
   rw [e1, e3]
   refine ⟨by omega, by rw [l2 h]; rfl, fun h => by omega, fun h => by rw [hA] at h; exact absurd h.2.1 (by simp)⟩
 ·
  have e1 : q = 0 := by simp [q, hA]
  have e3 : ps = [] := by simp [ps, hA]
  rw [e1, e3]
  refine ⟨by omega, rfl, fun h => by omega, fun h => by omega⟩
theorem fun_ok {l : Int} (h1 : 1 ≤ l) (h9 : l ≤ 99) {f : Int} (f0 : 0 ≤ f) (f1 : f ≤ 2) {G : List Co} (l1 : f = 1 → 1 ≤ G.length ∧ G.length ≤ 9) :
  let q := if f = 0 then 1 else if f = 1 then (if allC G = true then 0 else 2) else (0 : Int)
  let fl := if f = 0 then l else 0
  let fs := if f = 1 then (if allC G = true then [] else G) else []
  (0 ≤ q ∧ q ≤ 3) ∧ rng fl ∧ (q ≠ 2 → fs.length = 0) ∧ (q = 2 → 1 ≤ fs.length ∧ fs.length ≤ 9 ∧ ¬ allC fs = true) ∧ (q = 1 ↔ fl ≠ 0) := by
 intro q fl fs
 obtain h | h | h : f = 0 ∨ f = 1 ∨ f = 2 := by omega
 ·
  have e1 : q = 1 := by simp [q, h]
  have e2 : fl = l := by simp [fl, h]
  have e3 : fs = [] := by simp [fs, h]
  rw [e1, e2, e3]
  refine ⟨by omega, by unfold rng; omega, fun _ => rfl, fun h => by omega, by omega⟩
 ·
  have e2 : fl = 0 := by simp [fl, h]
  cases hA : allC G
  ·
   have e1 : q = 2 := by simp [q, h, hA]
   have e3 : fs = G := by simp [fs, h, hA]
   rw [e1, e2, e3]
   refine ⟨by omega, rng0, fun h => absurd rfl h, fun _ => ⟨(l1 h).1, (l1 h).2, by rw [hA]; simp⟩, by omega⟩
  ·
   have e1 : q = 0 := by simp [q, h, hA]
   have e3 : fs = [] := by simp [fs, h, hA]
   rw [e1, e2, e3]
   refine ⟨by omega, rng0, fun _ => rfl, fun h => by omega, by omega⟩
 ·
  have e1 : q = 0 := by simp [q, h]
  have e2 : fl = 0 := by simp [fl, h]
  have e3 : fs = [] := by simp [fs, h]
  rw [e1, e2, e3]
  refine ⟨by omega, rng0, fun _ => rfl, fun h => by omega, by omega⟩
theorem fun_ok0 {f : Int} {G : List Co} (l1 : f = 1 → 1 ≤ G.length ∧ G.length ≤ 9) :
  let q := if f = 1 then (if allC G = true then 0 else 2) else (0 : Int)
  let fs := if f = 1 then (if allC G = true then [] else G) else []
  (0 ≤ q ∧ q ≤ 3) ∧ (q ≠ 2 → fs.length = 0) ∧ (q = 2 → 1 ≤ fs.length ∧ fs.length ≤ 9 ∧ ¬ allC fs = true) ∧ (q = 1 ↔ (0 : Int) ≠ 0) := by
 intro q fs
 by_cases h : f = 1
 ·
  cases hA : allC G
  ·
   have e1 : q = 2 := by simp [q, h, hA]
   have e3 : fs = G := by simp [fs, h, hA]
   rw [e1, e3]
   refine ⟨by omega, fun h => absurd rfl h, fun _ => ⟨(l1 h).1, (l1 h).2, by rw [hA]; simp⟩, by omega⟩
  ·
   have e1 : q = 0 := by simp [q, h, hA]
   have e3 : fs = [] := by simp [fs, h, hA]
   rw [e1, e3]
   refine ⟨by omega, fun _ => rfl, fun h => by omega, by omega⟩
 ·
  have e1 : q = 0 := by simp [q, h]
  have e3 : fs = [] := by simp [fs, h]
  rw [e1, e3]
  refine ⟨by omega, fun _ => rfl, fun h => by omega, by omega⟩
/-- the coercion of a type that may be is one that may be, and no higher than the type -/
theorem goC_ok {l : Int} (h1 : 1 ≤ l) (h9 : l ≤ 99) : ∀ (n : Nat) (b : Bool) (t : Ty), deepF n t = true → okC (goC n b t l) ∧ htC (goC n b t l) ≤ n := by
 intro n
 induction n with
 | zero => intro b t h; cases h
 | succ n ih =>
  intro b t h
  rw [deepF_succ, Bool.and_eq_true, Bool.and_eq_true, List.all_eq_true, List.all_eq_true] at h
  obtain ⟨⟨hh, hp⟩, hf⟩ := h
  unfold headOK at hh
  rw [decide_eq_true_eq] at hh
  obtain ⟨f0, f1, p0, p1, n0, n1, ha, kp, kf0, kf1⟩ := hh
  have gp : ∀ (b : Bool), ∀ x ∈ t.pairs.map (fun x => goC n b x l), okC x ∧ htC x ≤ n := fun b x hx => by
   obtain ⟨y, hy, rfl⟩ := List.mem_map.1 hx
   exact ih b y (hp y hy)
  have gf : ∀ (b b' : Bool), t.fn = 1 → ∀ x ∈ ((List.range (t.funs.length - 1)).map fun i => goC n b (t.funs.getD i ty0) l) ++ [goC n b' (t.funs.getD (t.funs.length - 1) ty0) l], okC x ∧ htC x ≤ n := fun b b' h1 x hx => by
   have hl := kf1 h1
   rcases List.mem_append.1 hx with hx | hx
   ·
    obtain ⟨i, hi, rfl⟩ := List.mem_map.1 hx
    exact ih b _ (hf _ (getT_mem (by have := List.mem_range.1 hi; omega)))
   ·
    rw [List.mem_singleton.1 hx]
    exact ih b' _ (hf _ (getT_mem (by omega)))
  have fin : ∀ (c : Co), headC c = true → (∀ x ∈ c.pairs, okC x ∧ htC x ≤ n) → (∀ x ∈ c.funs, okC x ∧ htC x ≤ n) → okC c ∧ htC c ≤ n + 1 := fun c h k1 k2 => by
   refine ⟨okC.mk h (fun x hx => (k1 x hx).1) fun x hx => (k2 x hx).1, ?_⟩
   rw [htC_eq]
   have e1 : htCs c.pairs ≤ n := htCs_le fun x hx => (k1 x hx).2
   have e2 : htCs c.funs ≤ n := htCs_le fun x hx => (k2 x hx).2
   omega
  have plen : t.pair = 1 → t.pairs.length = 2 := fun h => by rw [if_pos h] at kp; omega
  have plen2 : t.pair = 2 → t.pairs.length = 1 := fun h => by rw [if_neg (by omega), if_pos h] at kp; omega
  have r0 : rng 0 := rng0
  have rl : rng l := by unfold rng; omega
  cases b with
  | true =>
   by_cases hall : t.all = true
   ·
    have e : goC (n + 1) true t l = co0 := by rw [goC, if_pos hall]
    rw [e]
    exact fin co0 (by decide) (by simp [co0, Co.pairs]) (by simp [co0, Co.funs])
   ·
    have gp1 := gp true
    have gf1 := gf false true
    rw [goC, if_neg hall]
    obtain ⟨P, hP⟩ : ∃ P, P = t.pairs.map fun x => goC n true x l := ⟨_, rfl⟩
    obtain ⟨G, hG⟩ : ∃ G, G = ((List.range (t.funs.length - 1)).map fun i => goC n false (t.funs.getD i ty0) l) ++ [goC n true (t.funs.getD (t.funs.length - 1) ty0) l] := ⟨_, rfl⟩
    have lP : P.length = t.pairs.length := by rw [hP, List.length_map]
    have lG : t.fn = 1 → G.length = t.funs.length := fun h => by have := kf1 h; rw [hG]; simp; omega
    rw [← hP] at gp1
    rw [← hG] at gf1
    dsimp only
    rw [← hP, ← hG]
    clear hP hG
    refine fin _ ?_ ?_ ?_
    ·
     have hpp := pair_true (l := l) h1 h9 (p := t.pair) (by omega) (by omega) (P := P) (fun h => by rw [lP, plen h]) (fun h => by rw [lP, plen2 h])
     have hff := fun_ok (l := l) h1 h9 (f := t.fn) (by omega) (by omega) (G := G) (fun h => by rw [lG h]; exact kf1 h)
     unfold headC Co.h Co.pairs Co.funs
     rw [decide_eq_true_eq]
     exact ⟨bitF_rng _ _ h1 h9, bitF_rng _ _ h1 h9, bitF_rng _ _ h1 h9, bitF_rng _ _ h1 h9, bitF_rng _ _ h1 h9, bitF_rng _ _ h1 h9, hpp.1, hff.1, hpp.2.1, hff.2.1, hpp.2.2.1, hpp.2.2.2.1, hpp.2.2.2.2.1, hpp.2.2.2.2.2, hff.2.2.1, hff.2.2.2.1, hff.2.2.2.2⟩
    ·
     intro x hx
     unfold Co.pairs at hx
     dsimp only at hx
     split at hx
     ·
      cases hx
     ·
      exact gp1 x hx
    ·
     intro x hx
     unfold Co.funs at hx
     dsimp only at hx
     split at hx
     ·
      rename_i hn
      split at hx
      ·
       cases hx
      ·
       exact gf1 hn x hx
     ·
      cases hx
  | false =>
   have gp1 := gp false
   have gf1 := gf true false
   rw [goC]
   obtain ⟨P, hP⟩ : ∃ P, P = t.pairs.map fun x => goC n false x l := ⟨_, rfl⟩
   obtain ⟨G, hG⟩ : ∃ G, G = ((List.range (t.funs.length - 1)).map fun i => goC n true (t.funs.getD i ty0) l) ++ [goC n false (t.funs.getD (t.funs.length - 1) ty0) l] := ⟨_, rfl⟩
   have lP : P.length = t.pairs.length := by rw [hP, List.length_map]
   have lG : t.fn = 1 → G.length = t.funs.length := fun h => by have := kf1 h; rw [hG]; simp; omega
   rw [← hP] at gp1
   rw [← hG] at gf1
   rw [← hP, ← hG]
   clear hP hG
   refine fin _ ?_ ?_ ?_
   ·
    have hpp := pair_false (p := t.pair) (by omega) (by omega) (P := P) (fun h => by rw [lP, plen h]) (fun h => by rw [lP, plen2 h])
    have hff := fun_ok0 (f := t.fn) (G := G) (fun h => by rw [lG h]; exact kf1 h)
    unfold headC Co.h Co.pairs Co.funs
    rw [decide_eq_true_eq]
    exact ⟨rng0, rng0, rng0, rng0, rng0, rng0, hpp.1, hff.1, rng0, rng0, hpp.2.1, hpp.2.2.1, fun _ => rfl, hpp.2.2.2, hff.2.1, hff.2.2.1, hff.2.2.2⟩
   ·
    intro x hx
    unfold Co.pairs at hx
    dsimp only at hx
    split at hx
    ·
     cases hx
    ·
     exact gp1 x hx
   ·
    intro x hx
    unfold Co.funs at hx
    dsimp only at hx
    split at hx
    ·
     rename_i hn
     split at hx
     ·
      cases hx
     ·
      exact gf1 hn x hx
    ·
     cases hx
theorem blmC_mk {l : Int} {h : Hd} {p f : List Co} (h0 : ∀ x ∈ h.flat, x = 0 ∨ x = l) (h1 : h.pl = 0 ∨ h.pl = l) (h2 : h.fl = 0 ∨ h.fl = l) (hp : ∀ x ∈ p, blmC l x = true) (hf : ∀ x ∈ f, blmC l x = true) : blmC l (.mk h p f) = true := by
 rw [blmC_eq]
 unfold Co.h Co.pairs Co.funs
 simp only [Bool.and_eq_true, List.all_eq_true, decide_eq_true_eq]
 exact ⟨⟨⟨⟨h0, h1⟩, h2⟩, (blmCs_iff l p).2 hp⟩, (blmCs_iff l f).2 hf⟩
theorem bitF_or (f b l : Int) : bitF f b l = 0 ∨ bitF f b l = l := by unfold bitF; split <;> omega
/-- it blames just its party -/
theorem goC_blames (l : Int) : ∀ (n : Nat) (b : Bool) (t : Ty), blmC l (goC n b t l) = true := by
 intro n
 induction n with
 | zero => intro b t; rw [goC_zero]; exact blmC_mk (h := hd0) (by simp [hd0, Hd.flat]) (.inl rfl) (.inl rfl) (by simp) (by simp)
 | succ n ih =>
  intro b t
  have gp : ∀ (b : Bool), ∀ x ∈ t.pairs.map (fun x => goC n b x l), blmC l x = true := fun b x hx => by
   obtain ⟨y, _, rfl⟩ := List.mem_map.1 hx; exact ih b y
  have gf : ∀ (b b' : Bool), ∀ x ∈ ((List.range (t.funs.length - 1)).map fun i => goC n b (t.funs.getD i ty0) l) ++ [goC n b' (t.funs.getD (t.funs.length - 1) ty0) l], blmC l x = true := fun b b' x hx => by
   rcases List.mem_append.1 hx with hx | hx
   ·
    obtain ⟨i, _, rfl⟩ := List.mem_map.1 hx; exact ih b _
   ·
    rw [List.mem_singleton.1 hx]; exact ih b' _
  cases b with
  | true =>
   rw [goC]
   split
   ·
    exact blmC_mk (h := hd0) (by simp [hd0, Hd.flat]) (.inl rfl) (.inl rfl) (by simp) (by simp)
   ·
    refine blmC_mk ?_ ?_ ?_ (fun x hx => ?_) fun x hx => ?_
    ·
     intro x hx
     simp only [Hd.flat, List.mem_cons, List.not_mem_nil, or_false] at hx
     rcases hx with rfl | rfl | rfl | rfl | rfl | rfl <;> exact bitF_or _ _ _
    ·
     dsimp only; split <;> omega
    ·
     dsimp only; split <;> omega
    ·
     split at hx
     ·
      cases hx
     ·
      exact gp true x hx
    ·
     split at hx
     ·
      split at hx
      ·
       cases hx
      ·
       exact gf false true x hx
     ·
      cases hx
  | false =>
   rw [goC]
   refine blmC_mk (by simp [Hd.flat]) (.inl rfl) (.inl rfl) (fun x hx => ?_) fun x hx => ?_
   ·
    split at hx
    ·
     cases hx
    ·
     exact gp false x hx
   ·
    split at hx
    ·
     split at hx
     ·
      cases hx
     ·
      exact gf true false x hx
    ·
     cases hx
theorem first_co0 (tag : Int) : firstC co0 tag = 0 := by
 unfold firstC co0 Co.h hd0
 simp only [ite_self]
/-- who goes to a party is not blamed at once -/
theorem goC_first0 (n : Nat) (t : Ty) (l tag : Int) : firstC (goC n false t l) tag = 0 := by
 have key : ∀ h p f, h.f0 = 0 → h.f1 = 0 → h.f2 = 0 → h.f3 = 0 → h.f4 = 0 → h.f5 = 0 → h.pl = 0 → h.fl = 0 → firstC (.mk h p f) tag = 0 := fun h p f a0 a1 a2 a3 a4 a5 a6 a7 => by
  unfold firstC Co.h
  simp only [a0, a1, a2, a3, a4, a5, a6, a7, ite_self]
 cases n with
 | zero => rw [goC_zero]; exact key hd0 [] [] rfl rfl rfl rfl rfl rfl rfl rfl
 | succ n =>
  rw [goC]
  exact key _ _ _ rfl rfl rfl rfl rfl rfl rfl rfl
theorem first_split {h : Hd} {p f : List Co} {tag a0 a1 a2 a3 a4 a5 x y : Int} (e0 : h.f0 = a0) (e1 : h.f1 = a1) (e2 : h.f2 = a2) (e3 : h.f3 = a3) (e4 : h.f4 = a4) (e5 : h.f5 = a5) (hx : (if h.pair = 1 then h.pl else 0) = x) (hy : (if h.fn = 1 then h.fl else 0) = y) :
  firstC (.mk h p f) tag = if tag = 1 then a0 else if tag = 2 then a1 else if tag = 4 then a2 else if tag = 8 then a3 else if tag = 16 then a4 else if tag = 32 then a5 else if tag = 64 then x else if tag = 128 then y else 0 := by
 subst e0 e1 e2 e3 e4 e5 hx hy
 have e : firstC (.mk h p f) tag = if tag = 1 then h.f0 else if tag = 2 then h.f1 else if tag = 4 then h.f2 else if tag = 8 then h.f3 else if tag = 16 then h.f4 else if tag = 32 then h.f5 else if tag = 64 ∧ h.pair = 1 then h.pl else if tag = 128 ∧ h.fn = 1 then h.fl else 0 := rfl
 rw [e]
 have k : (if tag = 64 ∧ h.pair = 1 then h.pl else if tag = 128 ∧ h.fn = 1 then h.fl else 0) = if tag = 64 then (if h.pair = 1 then h.pl else 0) else if tag = 128 then (if h.fn = 1 then h.fl else 0) else 0 := by
  by_cases h64 : tag = 64
  ·
   by_cases hp : h.pair = 1
   ·
    rw [if_pos ⟨h64, hp⟩, if_pos h64, if_pos hp]
   ·
    rw [if_neg (fun hh => hp hh.2), if_neg (fun hh => by omega), if_pos h64, if_neg hp]
  ·
   rw [if_neg (fun hh => h64 hh.1), if_neg h64]
   by_cases h128 : tag = 128
   ·
    by_cases hp : h.fn = 1
    ·
     rw [if_pos ⟨h128, hp⟩, if_pos h128, if_pos hp]
    ·
     rw [if_neg (fun hh => hp hh.2), if_pos h128, if_neg hp]
   ·
    rw [if_neg (fun hh => h128 hh.1), if_neg h128]
 rw [k]
/-- who is said to be of a type is blamed at once just where the type has no value of the tag -/
theorem goC_first (n : Nat) (t : Ty) (l tag : Int) : firstC (goC (n + 1) true t l) tag = if t.all = true then 0 else
  if tag = 1 then bitF t.flat 1 l else if tag = 2 then bitF t.flat 2 l else if tag = 4 then bitF t.flat 4 l else if tag = 8 then bitF t.flat 8 l else if tag = 16 then bitF t.flat 16 l else if tag = 32 then bitF t.flat 32 l else
  if tag = 64 then (if t.pair = 0 then l else 0) else if tag = 128 then (if t.fn = 0 then l else 0) else 0 := by
 rw [goC]
 by_cases ha : t.all = true
 ·
  rw [if_pos ha, if_pos ha]
  exact first_co0 tag
 ·
  rw [if_neg ha, if_neg ha]
  refine first_split rfl rfl rfl rfl rfl rfl ?_ ?_
  ·
   show (if (if t.pair = 0 then 1 else if t.pair = 1 then (if allC (t.pairs.map fun x => goC n true x l) = true then 0 else 2) else (3 : Int)) = 1 then (if t.pair = 0 ∨ t.pair = 2 then l else 0) else 0) = _
   generalize allC (t.pairs.map fun x => goC n true x l) = A
   by_cases hp : t.pair = 0
   ·
    simp [hp]
   ·
    by_cases hp1 : t.pair = 1
    ·
     cases A <;> simp [hp1]
    ·
     simp [hp, hp1]
  ·
   generalize allC (((List.range (t.funs.length - 1)).map fun i => goC n false (t.funs.getD i ty0) l) ++ [goC n true (t.funs.getD (t.funs.length - 1) ty0) l]) = A
   show (if (if t.fn = 0 then 1 else if t.fn = 1 then (if A = true then 0 else 2) else (0 : Int)) = 1 then (if t.fn = 0 then l else 0) else 0) = _
   by_cases hf : t.fn = 0
   ·
    simp [hf]
   ·
    by_cases hf1 : t.fn = 1
    ·
     cases A <;> simp [hf1]
    ·
     simp [hf, hf1]
end Go.Proofs.YtlalnkabfigodaaDoor
