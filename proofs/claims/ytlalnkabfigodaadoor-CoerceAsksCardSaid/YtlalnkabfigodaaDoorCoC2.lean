import Derived.Test.YtlalnkabfigodaaDoorCoTf
-- joined
namespace Go.Proofs.YtlalnkabfigodaaDoor
open Go.Lib (hid)
open Go.RowKit

set_option maxRecDepth 100000 in
set_option maxHeartbeats 8000000 in
theorem or_p (a c : Int) (b : Nat) (w : World) (h0 : w.cell? ⟨b, 0, none⟩ = some (.int .i64 a)) (h1 : w.cell? ⟨b, 1, none⟩ = some (.int .i64 c)) : Calls Tryd.prog 87 #[.slice (some ⟨b, 0, none⟩) 2 2] w fun e w' => e = .returned (.int .i64 (eithC a c)) ∧ w' = w := by
 obtain ⟨z, hz⟩ : ∃ z, z = eithC a c := ⟨_, rfl⟩
 rw [← hz]
 unfold eithC at hz
 have HZ := hid hz
 have H0 := hid h0
 have H1 := hid h1
 clear hz h0 h1
 go_enter Tryd.func87, Tryd.ntmps87
 go_wp2
 go_loopw [5, 8] (fun _ iv wr => wr = w ∧ ∃ i : Nat, i ≤ 2 ∧ iv = .int .i64 i ∧ Hid (1 ≤ i → a = 0) ∧ Hid (2 ≤ i → c = 0)) (fun _ iv _ => 2 - (intOf iv).toNat)
 case atStart => exact ⟨rfl, 0, by omega, rfl, hid fun h => by omega, hid fun h => by omega⟩
 case round =>
  obtain ⟨rfl, i, hi, rfl, HA, HC⟩ := hrel
  rcases (by omega : i = 0 ∨ i = 1 ∨ i = 2) with rfl | rfl | rfl
  ·
   have h0 := H0.out
   by_cases ha : a = 0
   ·
    have ba : (a != 0) = false := by rw [ha]; rfl
    have HA0 := hid ha
    clear ha
    go_wp2
    exact ⟨⟨trivial, 1, by omega, rfl, hid fun _ => HA0.out, hid fun h => by omega⟩, by simp [intOf]⟩
   ·
    have ba : (a != 0) = true := bne_iff_ne.2 ha
    have HZ2 := hid (show z = a by rw [HZ.out, if_pos ha])
    clear ha
    go_wp2
    go_ret
    exact ⟨ret_int7 HZ2.out.symm, rfl⟩
  ·
   have h1 := H1.out
   have HA0 := HA.out (by omega)
   have HZ2 := hid (show z = c by rw [HZ.out, if_neg (fun h => h HA0)])
   clear HA0
   by_cases hc : c = 0
   ·
    have bc : (c != 0) = false := by rw [hc]; rfl
    have HC0 := hid hc
    clear hc
    go_wp2
    exact ⟨⟨trivial, 2, by omega, rfl, hid fun _ => HA.out (by omega), hid fun _ => HC0.out⟩, by simp [intOf]⟩
   ·
    have bc : (c != 0) = true := bne_iff_ne.2 hc
    clear hc
    go_wp2
    go_ret
    exact ⟨ret_int7 HZ2.out.symm, rfl⟩
  ·
   have HZ2 := hid (show z = 0 by rw [HZ.out, if_neg (fun h => h (HA.out (by omega))), HC.out (by omega)])
   go_wp2
   go_ret
   exact ⟨ret_int7 HZ2.out.symm, rfl⟩

/-- what composePairs and composeFuns may cost -/
def both7 (a b : Nat) : Nat := a + b + a * b
theorem both_le (a b c d : Nat) : 1 + both7 a b + both7 c d ≤ (1 + a + c) * (1 + b + d) := by
 unfold both7
 have e : (1 + a + c) * (1 + b + d) = 1 + (a + b + a * b) + (c + d + c * d) + a * d + c * b := by
  simp only [Nat.add_mul, Nat.mul_add, Nat.one_mul, Nat.mul_one]; omega
 omega
theorem mul_le7 {a b c d : Nat} (h1 : a ≤ c) (h2 : b ≤ d) : a * b ≤ c * d := Nat.mul_le_mul h1 h2
theorem szC_lists (c : Co) (l : Int) : szC (listsC c l) ≤ 1 + szC c := by
 unfold listsC
 split
 ·
  show szC co0 ≤ _
  have : szC co0 = 1 := by rw [szC_eq]; rfl
  omega
 ·
  rw [szC_eq]
  show 1 + szCs [c] + szCs [] ≤ _
  simp only [szCs]; omega
/-- what the cars and the cdrs cost -/
theorem pairs_cost {c d : Co} (hc : Shape c) (hd : Shape d) (h2 : 2 ≤ c.h.pair) (h3 : 2 ≤ d.h.pair) :
  szC (carC c) * szC (carC d) ≤ both7 (szCs c.pairs) (szCs d.pairs) ∧ (¬ (c.h.pair = 3 ∧ d.h.pair = 3) → szC (carC c) * szC (carC d) + szC (cdrC c) * szC (cdrC d) ≤ both7 (szCs c.pairs) (szCs d.pairs)) := by
 have key : ∀ {c : Co}, Shape c → 2 ≤ c.h.pair → (c.h.pair = 3 ∧ szCs c.pairs = szC (carC c) ∧ szC (cdrC c) ≤ 1 + szC (carC c)) ∨ (c.h.pair = 2 ∧ szCs c.pairs = szC (carC c) + szC (cdrC c)) := by
  intro c hc h2
  obtain ⟨h3, _, h5, _⟩ := hc.own
  unfold wantC at h5
  by_cases e : c.h.pair = 2
  ·
   right
   rw [if_pos e] at h5
   have hl := list2 (l := c.pairs) (by omega)
   refine ⟨e, ?_⟩
   unfold carC cdrC
   rw [if_neg (by omega), if_neg (by omega), if_pos e]
   generalize c.pairs.getD 0 co0 = x at hl ⊢
   generalize c.pairs.getD 1 co0 = y at hl ⊢
   rw [hl]; simp only [szCs]; omega
  ·
   left
   have e3 : c.h.pair = 3 := by omega
   rw [if_neg e, if_pos e3] at h5
   have hl := list1 (l := c.pairs) (by omega)
   unfold carC cdrC
   rw [if_neg (by omega), if_neg (by omega), if_neg e]
   generalize c.pairs.getD 0 co0 = x at hl ⊢
   refine ⟨e3, by rw [hl]; simp only [szCs]; omega, szC_lists x _⟩
 unfold both7
 generalize hA : szC (carC c) = A at *
 generalize hB : szC (carC d) = B at *
 have kc := key hc h2
 have kd := key hd h3
 rw [hA] at kc
 rw [hB] at kd
 generalize szC (cdrC c) = A2 at *
 generalize szC (cdrC d) = B2 at *
 generalize szCs c.pairs = p at *
 generalize szCs d.pairs = q at *
 rcases kc with ⟨e1, e2, e3⟩ | ⟨e1, e2⟩ <;> rcases kd with ⟨f1, f2, f3⟩ | ⟨f1, f2⟩
 ·
  subst e2 f2
  exact ⟨by omega, fun h => absurd ⟨e1, f1⟩ h⟩
 ·
  subst e2 f2
  have hm : A2 * B2 ≤ (1 + p) * B2 := Nat.mul_le_mul_right _ e3
  rw [Nat.add_mul, Nat.one_mul] at hm
  rw [Nat.mul_add]
  exact ⟨by omega, fun _ => by omega⟩
 ·
  subst e2 f2
  have hm : A2 * B2 ≤ A2 * (1 + q) := Nat.mul_le_mul_left _ f3
  rw [Nat.mul_add, Nat.mul_one] at hm
  rw [Nat.add_mul]
  exact ⟨by omega, fun _ => by omega⟩
 ·
  subst e2 f2
  rw [Nat.add_mul, Nat.mul_add, Nat.mul_add]
  exact ⟨by omega, fun _ => by omega⟩
theorem funs_cost : ∀ (l m : List Co) (k : Nat), k ≤ l.length → k ≤ m.length → ((List.range k).map fun i => szC (l.getD i co0) * szC (m.getD i co0)).sum ≤ szCs (l.take k) * szCs (m.take k)
 | l, m, 0, _, _ => by simp
 | l, m, k + 1, h1, h2 => by
  have ih := funs_cost l m k (by omega) (by omega)
  rw [List.range_succ, List.map_append, List.sum_append, szCs_snoc l k (by omega), szCs_snoc m k (by omega), Nat.add_mul, Nat.mul_add, Nat.mul_add]
  simp only [List.map_cons, List.map_nil, List.sum_cons, List.sum_nil, Nat.add_zero]
  omega
end Go.Proofs.YtlalnkabfigodaaDoor
namespace Go.Proofs.YtlalnkabfigodaaDoor
open Go.Lib (hid)
open Go.RowKit

/-- what is said of compose -/
def CompOK (M n : Nat) : Prop := ∀ (c d : Co) (vc vd : Value) (w : World) (cw k e : Nat), okC c → okC d → htC c + htC d ≤ n → k + szC c * szC d ≤ M → e + n ≤ 131000 → TzW w → WalkC M cw k w → CoVN (· = cw) w vc c → CoVN (· = cw) w vd d →
  Calls Tryd.prog 63 #[.pointer (some ⟨cw, 0, none⟩), vc, vd, .int .i64 e] w (WPost M cw k (szC c * szC d) (compF n c d) w)
/-- what composePairs and composeFuns hand back -/
def PrPost (M cw k cost : Nat) (P PL : Int) (ps : List Co) (w : World) (e : Ending) (w' : World) : Prop := (∃ v, e = .returned (.tuple #[.int .i64 P, .int .i64 PL, v]) ∧ CoS w' (Lc (Old w.heap.size) w') v ps) ∧ Stay (· = cw) w w' ∧ ∃ k', k' ≤ k + cost ∧ WalkC M cw k' w'
def compP (n : Nat) (c d : Co) : Int × Int × List Co := if c.h.pair = 1 ∨ d.h.pair = 0 then (c.h.pair, c.h.pl, c.pairs) else if d.h.pair = 1 ∨ c.h.pair = 0 then (d.h.pair, d.h.pl, d.pairs) else
 if c.h.pair = 3 ∧ d.h.pair = 3 then (3, eithC c.h.pl d.h.pl, [compF n (carC c) (carC d)]) else (2, 0, [compF n (carC c) (carC d), compF n (cdrC c) (cdrC d)])
theorem ok_car {c : Co} (h : okC c) (h2 : 2 ≤ c.h.pair) : okC (carC c) := by
 unfold carC
 rw [if_neg (by omega)]
 exact h.pair (getC_mem (by have := (plen1 h.shape h2).1; omega))
theorem ok_lists {c : Co} (h : okC c) {l : Int} (hl : rng l) : okC (listsC c l) := by
 unfold listsC
 split
 ·
  exact okC.mk (by decide) (by simp [co0, Co.pairs]) (by simp [co0, Co.funs])
 ·
  rename_i hn
  refine okC.mk ?_ (fun x hx => ?_) (fun x hx => by cases hx)
  ·
   refine decide_eq_true ⟨hl, hl, hl, hl, (by decide : rng 0), hl, (by decide : (0 : Int) ≤ 3 ∧ (3 : Int) ≤ 3), ?_, hl, hl, rfl, fun h => absurd (show (3 : Int) = 1 from h) (by decide), fun h => absurd (show (3 : Int) = 0 ∨ (3 : Int) = 2 from h) (by decide), fun h => ?_, fun _ => rfl, fun h => ?_, ?_⟩
   ·
    show (0 : Int) ≤ (if l ≠ 0 then 1 else 0) ∧ (if l ≠ 0 then 1 else 0 : Int) ≤ 3
    split <;> omega
   ·
    have h1 : allC [c] = true := h.2.1
    have h2 : passC c = true := by simpa [allC] using h1
    exact hn ⟨h2, h.2.2⟩
   ·
    have h1 : (if l ≠ 0 then 1 else 0 : Int) = 2 := h
    split at h1 <;> omega
   ·
    show (if l ≠ 0 then 1 else 0 : Int) = 1 ↔ l ≠ 0
    split <;> simp_all
  ·
   have hx2 : x ∈ [c] := hx
   rw [List.mem_singleton.1 hx2]; exact h
theorem ok_cdr {c : Co} (h : okC c) (h2 : 2 ≤ c.h.pair) : okC (cdrC c) := by
 unfold cdrC
 rw [if_neg (by omega)]
 have hp := plen1 h.shape h2
 by_cases h3 : c.h.pair = 2
 ·
  rw [if_pos h3]; exact h.pair (getC_mem (by have := hp.2 h3; omega))
 ·
  rw [if_neg h3]
  refine ok_lists (h.pair (getC_mem (by omega))) ?_
  have hh := h.head
  unfold headC at hh
  rw [decide_eq_true_eq] at hh
  exact hh.2.2.2.2.2.2.2.2.1
theorem CoS.two7 {N : Nat → Prop} {w : World} {b : Nat} {T : TypeId} {r s : RawC} {x y : Co} (h : w.heap[b]? = some (.cells #[.int .i64 r.h.f0, .int .i64 r.h.f1, .int .i64 r.h.f2, .int .i64 r.h.f3, .int .i64 r.h.f4, .int .i64 r.h.f5, .int .i64 r.h.pair, .int .i64 r.h.pl, r.pv, .int .i64 r.h.fn, .int .i64 r.h.fl, r.fv, .int .i64 s.h.f0, .int .i64 s.h.f1, .int .i64 s.h.f2, .int .i64 s.h.f3, .int .i64 s.h.f4, .int .i64 s.h.f5, .int .i64 s.h.pair, .int .i64 s.h.pl, s.pv, .int .i64 s.h.fn, .int .i64 s.h.fl, s.fv] T (0, 0))) (hN : ¬ N b) (hr : RawCo w (Lc N w) r x) (hs : RawCo w (Lc N w) s y) : CoS w (Lc N w) (.slice (some ⟨b, 0, none⟩) 2 2) [x, y] := by
 refine CoS.mk (l := [x, y]) (rs := [r, s]) ⟨(Array.getElem?_eq_some_iff.1 h).1, hN⟩ (by unfold maxLen; simp) (fun j hj i hi => ?_) ⟨rfl, fun j hj => ?_⟩ (Nat.le_refl _)
 ·
  obtain rfl | rfl : j = 0 ∨ j = 1 := by simp at hj; omega
  ·
   rw [Lib.cell_of_heap h]
   simp only [Nat.zero_mul, Nat.zero_add, List.getElem?_toArray]
   show _ = (coCells r)[i]?
   obtain rfl | rfl | rfl | rfl | rfl | rfl | rfl | rfl | rfl | rfl | rfl | rfl : i = 0 ∨ i = 1 ∨ i = 2 ∨ i = 3 ∨ i = 4 ∨ i = 5 ∨ i = 6 ∨ i = 7 ∨ i = 8 ∨ i = 9 ∨ i = 10 ∨ i = 11 := by omega
   all_goals rfl
  ·
   rw [Lib.cell_of_heap h]
   simp only [Nat.one_mul, Nat.zero_add, List.getElem?_toArray]
   show _ = (coCells s)[i]?
   obtain rfl | rfl | rfl | rfl | rfl | rfl | rfl | rfl | rfl | rfl | rfl | rfl : i = 0 ∨ i = 1 ∨ i = 2 ∨ i = 3 ∨ i = 4 ∨ i = 5 ∨ i = 6 ∨ i = 7 ∨ i = 8 ∨ i = 9 ∨ i = 10 ∨ i = 11 := by omega
   all_goals rfl
 ·
  obtain rfl | rfl : j = 0 ∨ j = 1 := by simp at hj; omega
  ·
   exact hr
  ·
   exact hs
theorem CoVN.two7 {N : Nat → Prop} {w w' : World} {v : Value} {c : Co} (h : CoVN N w v c) (hs : Stay N w w') : CoVN N w' v c := h.stay hs

set_option maxRecDepth 100000 in
set_option maxHeartbeats 32000000 in
theorem cpairs_p (M n : Nat) (hM : M ≤ 2147483647) (ih : CompOK M n) (c d : Co) (vc vd : Value) (w : World) (cw k e : Nat) (oc : okC c) (od : okC d) (hht : htC c + htC d ≤ n + 1) (hk : k + both7 (szCs c.pairs) (szCs d.pairs) ≤ M) (he : e + n + 1 ≤ 131000) (hT : TzW w) (hw : WalkC M cw k w) (hc : CoVN (· = cw) w vc c) (hd : CoVN (· = cw) w vd d) :
  Calls Tryd.prog 88 #[.pointer (some ⟨cw, 0, none⟩), vc, vd, .int .i64 e] w (PrPost M cw k (both7 (szCs c.pairs) (szCs d.pairs)) (compP n c d).1 (compP n c d).2.1 (compP n c d).2.2 w) := by
 have sc := oc.shape
 have sd := od.shape
 have hcw := hw.lt
 have hne := hT.walk hw
 have hhc := htC_eq c
 have hhd := htC_eq d
 have hcpc : ∀ (pa : Option Addr) (pc : Nat) (w1 : World), WalkC M cw k w1 → CoS w1 (Lc (· = cw) w1) (.slice pa c.pairs.length pc) c.pairs → Calls Tryd.prog 93 #[.pointer (some ⟨cw, 0, none⟩), .slice pa c.pairs.length pc, .int .i64 e] w1 fun e w' => (∃ v, e = .returned v ∧ CoS w' (Lc (Old w1.heap.size) w') v c.pairs) ∧ Stay (· = cw) w1 w' ∧ ∃ k', k' ≤ k + both7 (szCs c.pairs) (szCs d.pairs) ∧ WalkC M cw k' w' := fun pa pc w1 h1 h2 => by
  have hl : szCs c.pairs ≤ both7 (szCs c.pairs) (szCs d.pairs) := by unfold both7; omega
  refine (copies_of M _ (copied_any M hM _) c.pairs pa pc w1 cw k e (Nat.le_refl _) (by omega) (by have := htC_pos d; omega) (by have := sc.thin.len; omega) (fun x hx => sc.thin.pair hx) h1 h2).mono ?_
  rintro e w2 ⟨h3, h4, k', h5, h6⟩
  exact ⟨h3, h4, k', by omega, h6⟩
 have hcpd : ∀ (pa : Option Addr) (pc : Nat) (w1 : World), WalkC M cw k w1 → CoS w1 (Lc (· = cw) w1) (.slice pa d.pairs.length pc) d.pairs → Calls Tryd.prog 93 #[.pointer (some ⟨cw, 0, none⟩), .slice pa d.pairs.length pc, .int .i64 e] w1 fun e w' => (∃ v, e = .returned v ∧ CoS w' (Lc (Old w1.heap.size) w') v d.pairs) ∧ Stay (· = cw) w1 w' ∧ ∃ k', k' ≤ k + both7 (szCs c.pairs) (szCs d.pairs) ∧ WalkC M cw k' w' := fun pa pc w1 h1 h2 => by
  have hl : szCs d.pairs ≤ both7 (szCs c.pairs) (szCs d.pairs) := by unfold both7; omega
  refine (copies_of M _ (copied_any M hM _) d.pairs pa pc w1 cw k e (Nat.le_refl _) (by omega) (by have := htC_pos c; omega) (by have := sd.thin.len; omega) (fun x hx => sd.thin.pair hx) h1 h2).mono ?_
  rintro e w2 ⟨h3, h4, k', h5, h6⟩
  exact ⟨h3, h4, k', by omega, h6⟩
 have hcar := fun (w1 : World) (h1 : Stay (· = cw) w w1) => carof_p (· = cw) c vc w1 (fun b h => by rw [h]; exact Nat.lt_of_lt_of_le hcw h1.size) sc (hc.stay h1)
 have hdar := fun (w1 : World) (h1 : Stay (· = cw) w w1) => carof_p (· = cw) d vd w1 (fun b h => by rw [h]; exact Nat.lt_of_lt_of_le hcw h1.size) sd (hd.stay h1)
 have hcdr := fun (w1 : World) (h1 : Stay (· = cw) w w1) => cdrof_p (· = cw) c vc w1 (fun b h => by rw [h]; exact Nat.lt_of_lt_of_le hcw h1.size) sc (hT.stay h1 (Ne.symm hne)) (hc.stay h1)
 have hddr := fun (w1 : World) (h1 : Stay (· = cw) w w1) => cdrof_p (· = cw) d vd w1 (fun b h => by rw [h]; exact Nat.lt_of_lt_of_le hcw h1.size) sd (hT.stay h1 (Ne.symm hne)) (hd.stay h1)
 obtain ⟨cost, hcost⟩ : ∃ x, x = both7 (szCs c.pairs) (szCs d.pairs) := ⟨_, rfl⟩
 have hpc := fun h2 h3 => pairs_cost sc sd h2 h3
 rw [← hcost] at hk hcpc hcpd hpc ⊢
 have hca : 2 ≤ c.h.pair → 2 ≤ d.h.pair → ∀ (w1 : World) (u v : Value), Stay (· = cw) w w1 → WalkC M cw k w1 → CoVN (· = cw) w1 u (carC c) → CoVN (· = cw) w1 v (carC d) → Calls Tryd.prog 63 #[.pointer (some ⟨cw, 0, none⟩), u, v, .int .i64 ((e : Int) + 1)] w1 (WPost M cw k (szC (carC c) * szC (carC d)) (compF n (carC c) (carC d)) w1) := fun h2 h3 w1 u v h4 h5 h6 h7 => by
  have a1 := shape_car sc h2
  have a2 := shape_car sd h3
  have a3 := (hpc h2 h3).1
  exact ih (carC c) (carC d) u v w1 cw k (e + 1) (ok_car oc h2) (ok_car od h3) (by omega) (by omega) (by omega) (hT.stay h4 (Ne.symm hne)) h5 h6 h7
 have hcb : 2 ≤ c.h.pair → 2 ≤ d.h.pair → ¬ (c.h.pair = 3 ∧ d.h.pair = 3) → ∀ (w1 : World) (u v : Value) (k1 : Nat), k1 ≤ k + szC (carC c) * szC (carC d) → Stay (· = cw) w w1 → WalkC M cw k1 w1 → CoVN (· = cw) w1 u (cdrC c) → CoVN (· = cw) w1 v (cdrC d) → Calls Tryd.prog 63 #[.pointer (some ⟨cw, 0, none⟩), u, v, .int .i64 ((e : Int) + 1)] w1 fun e w' => (∃ v, e = .returned v ∧ CoVN (Old w1.heap.size) w' v (compF n (cdrC c) (cdrC d))) ∧ Stay (· = cw) w1 w' ∧ ∃ k', k' ≤ k + cost ∧ WalkC M cw k' w' := fun h2 h3 hn w1 u v k1 hk1 h4 h5 h6 h7 => by
  have a1 := shape_cdr sc h2
  have a2 := shape_cdr sd h3
  have a3 := (hpc h2 h3).2 hn
  have h8 := sc.own.1
  have h9 := sd.own.1
  have a4 : htC (cdrC c) + htC (cdrC d) ≤ n := by
   by_cases e2 : c.h.pair = 2
   ·
    have := a1.2.2 e2; have := a2.2.1; omega
   ·
    have := a2.2.2 (by omega); have := a1.2.1; omega
  refine (ih (cdrC c) (cdrC d) u v w1 cw k1 (e + 1) (ok_cdr oc h2) (ok_cdr od h3) a4 (by omega) (by omega) (hT.stay h4 (Ne.symm hne)) h5 h6 h7).mono ?_
  rintro e w2 ⟨h3, h4, k', h5, h6⟩
  exact ⟨h3, h4, k', by omega, h6⟩
 have hlc := sc.own.1
 have hld := sd.own.1
 have hca2 : 2 ≤ c.h.pair → 2 ≤ d.h.pair → szC (carC c) * szC (carC d) ≤ cost := fun h2 h3 => (hpc h2 h3).1
 obtain ⟨P, hP⟩ : ∃ P, P = compP n c d := ⟨_, rfl⟩
 rw [← hP]
 unfold compP at hP
 obtain ⟨pa, pc, fa, fc, rfl, hp, hf⟩ := hc.form
 obtain ⟨np, hnp⟩ : ∃ n, n = c.pairs.length := ⟨_, rfl⟩
 obtain ⟨nf, hnf⟩ : ∃ n, n = c.funs.length := ⟨_, rfl⟩
 obtain ⟨qa, qc, ga, gc, rfl, hq, hg⟩ := hd.form
 obtain ⟨mp, hmp⟩ : ∃ n, n = d.pairs.length := ⟨_, rfl⟩
 obtain ⟨mf, hmf⟩ : ∃ n, n = d.funs.length := ⟨_, rfl⟩
 have hcpc := hcpc pa pc
 have hcpd := hcpd qa qc
 rw [← hnp] at hp hcpc
 rw [← hmp] at hq hcpd
 rw [← hnp, ← hnf] at hcar hcdr ⊢
 rw [← hmp, ← hmf] at hdar hddr ⊢
 obtain ⟨W, hW⟩ : ∃ W, W = (w.alloc (.cells #[.int .i64 c.h.f0, .int .i64 c.h.f1, .int .i64 c.h.f2, .int .i64 c.h.f3, .int .i64 c.h.f4, .int .i64 c.h.f5, .int .i64 c.h.pair, .int .i64 c.h.pl, .slice pa np pc, .int .i64 c.h.fn, .int .i64 c.h.fl, .slice fa nf fc] 25)).alloc (.cells #[.int .i64 d.h.f0, .int .i64 d.h.f1, .int .i64 d.h.f2, .int .i64 d.h.f3, .int .i64 d.h.f4, .int .i64 d.h.f5, .int .i64 d.h.pair, .int .i64 d.h.pl, .slice qa mp qc, .int .i64 d.h.fn, .int .i64 d.h.fl, .slice ga mf gc] 25) := ⟨_, rfl⟩
 have hb : Below w.heap.size w W := by rw [hW]; exact (bAl _ _).alloc (by simp) _
 have HXC := hid (show CBox W w.heap.size 25 ⟨c.h, .slice pa np pc, .slice fa nf fc⟩ by rw [hW]; exact (CBox.made w 25 ⟨c.h, .slice pa np pc, .slice fa nf fc⟩).keep (bAl _ _))
 have HXD := hid (show CBox W (w.heap.size + 1) 25 ⟨d.h, .slice qa mp qc, .slice ga mf gc⟩ by rw [hW]; have := CBox.made (w.alloc (.cells #[.int .i64 c.h.f0, .int .i64 c.h.f1, .int .i64 c.h.f2, .int .i64 c.h.f3, .int .i64 c.h.f4, .int .i64 c.h.f5, .int .i64 c.h.pair, .int .i64 c.h.pl, .slice pa np pc, .int .i64 c.h.fn, .int .i64 c.h.fl, .slice fa nf fc] 25)) 25 ⟨d.h, .slice qa mp qc, .slice ga mf gc⟩; simp only [alloc_hs7] at this; exact this)
 have HSZ := hid (show W.heap.size = w.heap.size + 2 by rw [hW]; simp)
 have HB := hid hb
 have HS := hid (Stay.of (N := (· = cw)) hb)
 have HWK := hid (hw.keep hb)
 have HCW := hid hcw
 have HCP := hid (CoSN.below hp hb)
 have HDP := hid (CoSN.below hq hb)
 have HCPC := hid hcpc
 have HCPD := hid hcpd
 have HCAR := hid hcar
 have HDAR := hid hdar
 have HCDR := hid hcdr
 have HDDR := hid hddr
 have HCA := hid hca
 have HCA2 := hid hca2
 have HCB := hid hcb
 have HLC := hid hlc
 have HLD := hid hld
 have HP := hid hP
 have HW := hid hW
 have he2 : (e : Int) ≤ 131000 := by omega
 have hwr : IntKind.i64.wrap ((e : Int) + 1) = (e : Int) + 1 := by rw [IntKind.wrap_i64]; omega
 clear hb hcpc hcpd hcar hdar hcdr hddr hca hca2 hcb hlc hld hP hW hcw hne hhc hhd hpc hcost hk he hT hw hc hd hht sc sd oc od hM ih hp hf hq hg hnp hnf hmp hmf
 obtain ⟨x0, x1, x2, x3, x4, x5, x6, x7, x8, x9, x10, x11⟩ := HXC.out.cs
 (try dsimp only at x0 x1 x2 x3 x4 x5 x6 x7 x8 x9 x10 x11)
 obtain ⟨y0, y1, y2, y3, y4, y5, y6, y7, y8, y9, y10, y11⟩ := HXD.out.cs
 (try dsimp only at y0 y1 y2 y3 y4 y5 y6 y7 y8 y9 y10 y11)
 go_enter Tryd.func88, Tryd.ntmps88
 go_upto_region 1 with fail
 rw [← HW.out]
 clear HW
 by_cases a1 : c.h.pair = 1
 ·
  have b1 : (c.h.pair == 1) = true := by rw [a1]; rfl
  have HCOND := hid (show c.h.pair = 1 ∨ d.h.pair = 0 from .inl a1)
  clear a1
  have HPX := hid (show P = (c.h.pair, c.h.pl, c.pairs) by rw [HP.out, if_pos HCOND.out])
  go_upto_region 2 with fail
  (try dsimp only [List.append])
  refine wp_region_noPanic ?_
  refine wp_region_held_drew (S := (fun w' => w'.cell? ⟨w.heap.size, 6, none⟩ = some (.int .i64 c.h.pair) ∧ w'.cell? ⟨w.heap.size, 7, none⟩ = some (.int .i64 c.h.pl) ∧ w'.cell? ⟨w.heap.size, 8, none⟩ = some (.slice pa np pc))) (by kernel_rfl) (by (try dsimp only); exact ⟨(HXC.out.keep (Below.refl W.heap.size W).drew).c6, (HXC.out.keep (Below.refl W.heap.size W).drew).c7, (HXC.out.keep (Below.refl W.heap.size W).drew).c8⟩) (fun hHeld => ?_)
  have hdr : Below W.heap.size W W.drew := (Below.refl _ _).drew
  have HXE := hid (HXC.out.keep hdr)
  have HSE := hid (HS.out.then hdr)
  have HWE := hid (HWK.out.keep hdr)
  have HPE := hid (CoSN.below HCP.out hdr)
  have HDZ := hid hdr.size
  clear hdr
  generalize W.drew = wd at hHeld HXE HSE HWE HPE HDZ ⊢
  refine' tk_q 0 21 hHeld ?hi0 ?hr0
  case hi0 => (refine ⟨_, rfl, rfl, rfl, fun w hSw => ?_⟩; (try dsimp only at hSw); go_simp; (try with_reducible rfl))
  (try simp only [pq1, ls0, ls1])
  refine' tk_q 1 22 hHeld ?hi1 ?hr1
  case hi1 => (refine ⟨_, rfl, rfl, rfl, fun w hSw => ?_⟩; (try dsimp only at hSw); go_simp; (try with_reducible rfl))
  (try simp only [pq1, ls0, ls1])
  refine' tk_q 2 23 hHeld ?hi2 ?hr2
  case hi2 => (refine ⟨_, rfl, rfl, rfl, fun w hSw => ?_⟩; (try dsimp only at hSw); go_simp; (try with_reducible rfl))
  (try simp only [pq1, ls0, ls1])
  refine' tk_q 3 24 hHeld ?hi3 ?hr3
  case hi3 => (refine ⟨_, rfl, rfl, rfl, fun w hSw => ?_⟩; (try dsimp only at hSw); go_simp; (try with_reducible rfl))
  (try simp only [pq1, ls0, ls1])
  refine' tk_q 4 25 hHeld ?hi4 ?hr4
  case hi4 => (refine ⟨_, rfl, rfl, rfl, fun w hSw => ?_⟩; (try dsimp only at hSw); go_simp; (try with_reducible rfl))
  (try simp only [pq1, ls0, ls1])
  refine' tk_q 5 26 hHeld ?hi5 ?hr5
  case hi5 => (refine ⟨_, rfl, rfl, rfl, fun w hSw => ?_⟩; (try dsimp only at hSw); go_simp; (try with_reducible rfl))
  (try simp only [pq1, ls0, ls1])
  refine' tk_q 6 27 hHeld ?hi6 ?hr6
  case hi6 => (refine ⟨_, rfl, rfl, rfl, fun w hSw => ?_⟩; (try dsimp only at hSw); go_simp; (try with_reducible rfl))
  (try simp only [pq1, ls0, ls1])
  refine' tk_q 7 28 hHeld ?hi7 ?hr7
  case hi7 => (refine ⟨_, rfl, rfl, rfl, fun w hSw => ?_⟩; (try dsimp only at hSw); go_simp; (try with_reducible rfl))
  (try simp only [pq1, ls0, ls1])
  refine' tk_call 8 ?hi8 (by kernel_rfl) ?hr8
  case hi8 => rfl
  intro K hK
  go_simp
  go_at_call 93
  refine (HCPC.out wd HWE.out HPE.out).mono ?_
  rintro e2 w2 ⟨⟨v, rfl, hv⟩, hs2, hk2⟩
  have HV := hid hv
  have HS2 := hid (HSE.out.trans hs2)
  have HK2 := hid hk2
  have HX2 := hid (HXE.out.stay hs2 (by have := HCW.out; omega))
  clear hv hs2 hk2
  go_wp2_with fail
  clear hHeld
  refine hK.out _ _ (by (try dsimp only); exact ⟨HX2.out.c6, HX2.out.c7, HX2.out.c8⟩) (fun hHeld => ?_)
  clear hK K
  (try simp only [pq1, ls0, ls1])
  refine' tk_q 9 8 hHeld ?hi9 ?hr9
  case hi9 => (refine ⟨_, rfl, rfl, rfl, fun w hSw => ?_⟩; (try dsimp only at hSw); go_simp; (try with_reducible rfl))
  (try simp only [pq1, ls0, ls1])
  refine' tk_q 10 9 hHeld ?hia ?hra
  case hia => (refine ⟨_, rfl, rfl, rfl, fun w hSw => ?_⟩; (try dsimp only at hSw); go_simp; (try with_reducible rfl))
  (try simp only [pq1, ls0, ls1])
  refine' tk_q 11 10 hHeld ?hib ?hrb
  case hib => (refine ⟨_, rfl, rfl, rfl, fun w hSw => ?_⟩; (try dsimp only at hSw); go_simp; (try with_reducible rfl))
  (try simp only [pq1, ls0, ls1])
  refine wpAnyH_done (by kernel_rfl) ?_ _
  refine NoPanic.normal ?_
  go_wp2
  refine bodyPost_ret (v := .tuple #[.int .i64 c.h.pair, .int .i64 c.h.pl, v]) ?_ ?_ ?_
  ·
   simp [results, Tryd.results88, go_sem]
  ·
   rfl
  ·
   refine ⟨⟨v, ?_, ?_⟩, HS2.out, HK2.out⟩
   ·
    rw [HPX.out]
   ·
    rw [HPX.out]; exact CoSN.mono HV.out fun b _ h => Nat.lt_of_lt_of_le h (Nat.le_trans HB.out.size HDZ.out)
 have b1 : (c.h.pair == 1) = false := beq_false_of_ne a1
 by_cases a2 : d.h.pair = 0
 ·
  have b2 : (d.h.pair == 0) = true := by rw [a2]; rfl
  have HCOND := hid (show c.h.pair = 1 ∨ d.h.pair = 0 from .inr a2)
  clear a1 a2
  have HPX := hid (show P = (c.h.pair, c.h.pl, c.pairs) by rw [HP.out, if_pos HCOND.out])
  go_upto_region 2 with fail
  (try dsimp only [List.append])
  refine wp_region_noPanic ?_
  refine wp_region_held_drew (S := (fun w' => w'.cell? ⟨w.heap.size, 6, none⟩ = some (.int .i64 c.h.pair) ∧ w'.cell? ⟨w.heap.size, 7, none⟩ = some (.int .i64 c.h.pl) ∧ w'.cell? ⟨w.heap.size, 8, none⟩ = some (.slice pa np pc))) (by kernel_rfl) (by (try dsimp only); exact ⟨(HXC.out.keep (Below.refl W.heap.size W).drew).c6, (HXC.out.keep (Below.refl W.heap.size W).drew).c7, (HXC.out.keep (Below.refl W.heap.size W).drew).c8⟩) (fun hHeld => ?_)
  have hdr : Below W.heap.size W W.drew := (Below.refl _ _).drew
  have HXE := hid (HXC.out.keep hdr)
  have HSE := hid (HS.out.then hdr)
  have HWE := hid (HWK.out.keep hdr)
  have HPE := hid (CoSN.below HCP.out hdr)
  have HDZ := hid hdr.size
  clear hdr
  generalize W.drew = wd at hHeld HXE HSE HWE HPE HDZ ⊢
  refine' tk_q 0 21 hHeld ?hic ?hrc
  case hic => (refine ⟨_, rfl, rfl, rfl, fun w hSw => ?_⟩; (try dsimp only at hSw); go_simp; (try with_reducible rfl))
  (try simp only [pq1, ls0, ls1])
  refine' tk_q 1 22 hHeld ?hid ?hrd
  case hid => (refine ⟨_, rfl, rfl, rfl, fun w hSw => ?_⟩; (try dsimp only at hSw); go_simp; (try with_reducible rfl))
  (try simp only [pq1, ls0, ls1])
  refine' tk_q 2 23 hHeld ?hie ?hre
  case hie => (refine ⟨_, rfl, rfl, rfl, fun w hSw => ?_⟩; (try dsimp only at hSw); go_simp; (try with_reducible rfl))
  (try simp only [pq1, ls0, ls1])
  refine' tk_q 3 24 hHeld ?hif ?hrf
  case hif => (refine ⟨_, rfl, rfl, rfl, fun w hSw => ?_⟩; (try dsimp only at hSw); go_simp; (try with_reducible rfl))
  (try simp only [pq1, ls0, ls1])
  refine' tk_q 4 25 hHeld ?hig ?hrg
  case hig => (refine ⟨_, rfl, rfl, rfl, fun w hSw => ?_⟩; (try dsimp only at hSw); go_simp; (try with_reducible rfl))
  (try simp only [pq1, ls0, ls1])
  refine' tk_q 5 26 hHeld ?hih ?hrh
  case hih => (refine ⟨_, rfl, rfl, rfl, fun w hSw => ?_⟩; (try dsimp only at hSw); go_simp; (try with_reducible rfl))
  (try simp only [pq1, ls0, ls1])
  refine' tk_q 6 27 hHeld ?hii ?hri
  case hii => (refine ⟨_, rfl, rfl, rfl, fun w hSw => ?_⟩; (try dsimp only at hSw); go_simp; (try with_reducible rfl))
  (try simp only [pq1, ls0, ls1])
  refine' tk_q 7 28 hHeld ?hij ?hrj
  case hij => (refine ⟨_, rfl, rfl, rfl, fun w hSw => ?_⟩; (try dsimp only at hSw); go_simp; (try with_reducible rfl))
  (try simp only [pq1, ls0, ls1])
  refine' tk_call 8 ?hik (by kernel_rfl) ?hrk
  case hik => rfl
  intro K hK
  go_simp
  go_at_call 93
  refine (HCPC.out wd HWE.out HPE.out).mono ?_
  rintro e2 w2 ⟨⟨v, rfl, hv⟩, hs2, hk2⟩
  have HV := hid hv
  have HS2 := hid (HSE.out.trans hs2)
  have HK2 := hid hk2
  have HX2 := hid (HXE.out.stay hs2 (by have := HCW.out; omega))
  clear hv hs2 hk2
  go_wp2_with fail
  clear hHeld
  refine hK.out _ _ (by (try dsimp only); exact ⟨HX2.out.c6, HX2.out.c7, HX2.out.c8⟩) (fun hHeld => ?_)
  clear hK K
  (try simp only [pq1, ls0, ls1])
  refine' tk_q 9 8 hHeld ?hil ?hrl
  case hil => (refine ⟨_, rfl, rfl, rfl, fun w hSw => ?_⟩; (try dsimp only at hSw); go_simp; (try with_reducible rfl))
  (try simp only [pq1, ls0, ls1])
  refine' tk_q 10 9 hHeld ?him ?hrm
  case him => (refine ⟨_, rfl, rfl, rfl, fun w hSw => ?_⟩; (try dsimp only at hSw); go_simp; (try with_reducible rfl))
  (try simp only [pq1, ls0, ls1])
  refine' tk_q 11 10 hHeld ?hin ?hrn
  case hin => (refine ⟨_, rfl, rfl, rfl, fun w hSw => ?_⟩; (try dsimp only at hSw); go_simp; (try with_reducible rfl))
  (try simp only [pq1, ls0, ls1])
  refine wpAnyH_done (by kernel_rfl) ?_ _
  refine NoPanic.normal ?_
  go_wp2
  refine bodyPost_ret (v := .tuple #[.int .i64 c.h.pair, .int .i64 c.h.pl, v]) ?_ ?_ ?_
  ·
   simp [results, Tryd.results88, go_sem]
  ·
   rfl
  ·
   refine ⟨⟨v, ?_, ?_⟩, HS2.out, HK2.out⟩
   ·
    rw [HPX.out]
   ·
    rw [HPX.out]; exact CoSN.mono HV.out fun b _ h => Nat.lt_of_lt_of_le h (Nat.le_trans HB.out.size HDZ.out)
 have b2 : (d.h.pair == 0) = false := beq_false_of_ne a2
 have HN1 := hid (show ¬ (c.h.pair = 1 ∨ d.h.pair = 0) from fun h => h.elim a1 a2)
 by_cases a3 : d.h.pair = 1
 ·
  have b3 : (d.h.pair == 1) = true := by rw [a3]; rfl
  have HCOND := hid (show d.h.pair = 1 ∨ c.h.pair = 0 from .inl a3)
  clear a1 a2 a3
  have HPX := hid (show P = (d.h.pair, d.h.pl, d.pairs) by rw [HP.out, if_neg HN1.out, if_pos HCOND.out])
  go_upto_region 4 with fail
  (try dsimp only [List.append])
  refine wp_region_noPanic ?_
  refine wp_region_held_drew (S := (fun w' => w'.cell? ⟨(w.heap.size + 1), 6, none⟩ = some (.int .i64 d.h.pair) ∧ w'.cell? ⟨(w.heap.size + 1), 7, none⟩ = some (.int .i64 d.h.pl) ∧ w'.cell? ⟨(w.heap.size + 1), 8, none⟩ = some (.slice qa mp qc))) (by kernel_rfl) (by (try dsimp only); exact ⟨(HXD.out.keep (Below.refl W.heap.size W).drew).c6, (HXD.out.keep (Below.refl W.heap.size W).drew).c7, (HXD.out.keep (Below.refl W.heap.size W).drew).c8⟩) (fun hHeld => ?_)
  have hdr : Below W.heap.size W W.drew := (Below.refl _ _).drew
  have HXE := hid (HXD.out.keep hdr)
  have HSE := hid (HS.out.then hdr)
  have HWE := hid (HWK.out.keep hdr)
  have HPE := hid (CoSN.below HDP.out hdr)
  have HDZ := hid hdr.size
  clear hdr
  generalize W.drew = wd at hHeld HXE HSE HWE HPE HDZ ⊢
  refine' tk_q 0 39 hHeld ?hio ?hro
  case hio => (refine ⟨_, rfl, rfl, rfl, fun w hSw => ?_⟩; (try dsimp only at hSw); go_simp; (try with_reducible rfl))
  (try simp only [pq1, ls0, ls1])
  refine' tk_q 1 40 hHeld ?hip ?hrp
  case hip => (refine ⟨_, rfl, rfl, rfl, fun w hSw => ?_⟩; (try dsimp only at hSw); go_simp; (try with_reducible rfl))
  (try simp only [pq1, ls0, ls1])
  refine' tk_q 2 41 hHeld ?hiq ?hrq
  case hiq => (refine ⟨_, rfl, rfl, rfl, fun w hSw => ?_⟩; (try dsimp only at hSw); go_simp; (try with_reducible rfl))
  (try simp only [pq1, ls0, ls1])
  refine' tk_q 3 42 hHeld ?hir ?hrr
  case hir => (refine ⟨_, rfl, rfl, rfl, fun w hSw => ?_⟩; (try dsimp only at hSw); go_simp; (try with_reducible rfl))
  (try simp only [pq1, ls0, ls1])
  refine' tk_q 4 43 hHeld ?his ?hrs
  case his => (refine ⟨_, rfl, rfl, rfl, fun w hSw => ?_⟩; (try dsimp only at hSw); go_simp; (try with_reducible rfl))
  (try simp only [pq1, ls0, ls1])
  refine' tk_q 5 44 hHeld ?hit ?hrt
  case hit => (refine ⟨_, rfl, rfl, rfl, fun w hSw => ?_⟩; (try dsimp only at hSw); go_simp; (try with_reducible rfl))
  (try simp only [pq1, ls0, ls1])
  refine' tk_q 6 45 hHeld ?hiu ?hru
  case hiu => (refine ⟨_, rfl, rfl, rfl, fun w hSw => ?_⟩; (try dsimp only at hSw); go_simp; (try with_reducible rfl))
  (try simp only [pq1, ls0, ls1])
  refine' tk_q 7 46 hHeld ?hiv ?hrv
  case hiv => (refine ⟨_, rfl, rfl, rfl, fun w hSw => ?_⟩; (try dsimp only at hSw); go_simp; (try with_reducible rfl))
  (try simp only [pq1, ls0, ls1])
  refine' tk_call 8 ?hiw (by kernel_rfl) ?hrw
  case hiw => rfl
  intro K hK
  go_simp
  go_at_call 93
  refine (HCPD.out wd HWE.out HPE.out).mono ?_
  rintro e2 w2 ⟨⟨v, rfl, hv⟩, hs2, hk2⟩
  have HV := hid hv
  have HS2 := hid (HSE.out.trans hs2)
  have HK2 := hid hk2
  have HX2 := hid (HXE.out.stay hs2 (by have := HCW.out; omega))
  clear hv hs2 hk2
  go_wp2_with fail
  clear hHeld
  refine hK.out _ _ (by (try dsimp only); exact ⟨HX2.out.c6, HX2.out.c7, HX2.out.c8⟩) (fun hHeld => ?_)
  clear hK K
  (try simp only [pq1, ls0, ls1])
  refine' tk_q 9 8 hHeld ?hix ?hrx
  case hix => (refine ⟨_, rfl, rfl, rfl, fun w hSw => ?_⟩; (try dsimp only at hSw); go_simp; (try with_reducible rfl))
  (try simp only [pq1, ls0, ls1])
  refine' tk_q 10 9 hHeld ?hiy ?hry
  case hiy => (refine ⟨_, rfl, rfl, rfl, fun w hSw => ?_⟩; (try dsimp only at hSw); go_simp; (try with_reducible rfl))
  (try simp only [pq1, ls0, ls1])
  refine' tk_q 11 10 hHeld ?hiz ?hrz
  case hiz => (refine ⟨_, rfl, rfl, rfl, fun w hSw => ?_⟩; (try dsimp only at hSw); go_simp; (try with_reducible rfl))
  (try simp only [pq1, ls0, ls1])
  refine wpAnyH_done (by kernel_rfl) ?_ _
  refine NoPanic.normal ?_
  go_wp2
  refine bodyPost_ret (v := .tuple #[.int .i64 d.h.pair, .int .i64 d.h.pl, v]) ?_ ?_ ?_
  ·
   simp [results, Tryd.results88, go_sem]
  ·
   rfl
  ·
   refine ⟨⟨v, ?_, ?_⟩, HS2.out, HK2.out⟩
   ·
    rw [HPX.out]
   ·
    rw [HPX.out]; exact CoSN.mono HV.out fun b _ h => Nat.lt_of_lt_of_le h (Nat.le_trans HB.out.size HDZ.out)
 have b3 : (d.h.pair == 1) = false := beq_false_of_ne a3
 by_cases a4 : c.h.pair = 0
 ·
  have b4 : (c.h.pair == 0) = true := by rw [a4]; rfl
  have HCOND := hid (show d.h.pair = 1 ∨ c.h.pair = 0 from .inr a4)
  clear a1 a2 a3 a4
  have HPX := hid (show P = (d.h.pair, d.h.pl, d.pairs) by rw [HP.out, if_neg HN1.out, if_pos HCOND.out])
  go_upto_region 4 with fail
  (try dsimp only [List.append])
  refine wp_region_noPanic ?_
  refine wp_region_held_drew (S := (fun w' => w'.cell? ⟨(w.heap.size + 1), 6, none⟩ = some (.int .i64 d.h.pair) ∧ w'.cell? ⟨(w.heap.size + 1), 7, none⟩ = some (.int .i64 d.h.pl) ∧ w'.cell? ⟨(w.heap.size + 1), 8, none⟩ = some (.slice qa mp qc))) (by kernel_rfl) (by (try dsimp only); exact ⟨(HXD.out.keep (Below.refl W.heap.size W).drew).c6, (HXD.out.keep (Below.refl W.heap.size W).drew).c7, (HXD.out.keep (Below.refl W.heap.size W).drew).c8⟩) (fun hHeld => ?_)
  have hdr : Below W.heap.size W W.drew := (Below.refl _ _).drew
  have HXE := hid (HXD.out.keep hdr)
  have HSE := hid (HS.out.then hdr)
  have HWE := hid (HWK.out.keep hdr)
  have HPE := hid (CoSN.below HDP.out hdr)
  have HDZ := hid hdr.size
  clear hdr
  generalize W.drew = wd at hHeld HXE HSE HWE HPE HDZ ⊢
  refine' tk_q 0 39 hHeld ?hi10 ?hr10
  case hi10 => (refine ⟨_, rfl, rfl, rfl, fun w hSw => ?_⟩; (try dsimp only at hSw); go_simp; (try with_reducible rfl))
  (try simp only [pq1, ls0, ls1])
  refine' tk_q 1 40 hHeld ?hi11 ?hr11
  case hi11 => (refine ⟨_, rfl, rfl, rfl, fun w hSw => ?_⟩; (try dsimp only at hSw); go_simp; (try with_reducible rfl))
  (try simp only [pq1, ls0, ls1])
  refine' tk_q 2 41 hHeld ?hi12 ?hr12
  case hi12 => (refine ⟨_, rfl, rfl, rfl, fun w hSw => ?_⟩; (try dsimp only at hSw); go_simp; (try with_reducible rfl))
  (try simp only [pq1, ls0, ls1])
  refine' tk_q 3 42 hHeld ?hi13 ?hr13
  case hi13 => (refine ⟨_, rfl, rfl, rfl, fun w hSw => ?_⟩; (try dsimp only at hSw); go_simp; (try with_reducible rfl))
  (try simp only [pq1, ls0, ls1])
  refine' tk_q 4 43 hHeld ?hi14 ?hr14
  case hi14 => (refine ⟨_, rfl, rfl, rfl, fun w hSw => ?_⟩; (try dsimp only at hSw); go_simp; (try with_reducible rfl))
  (try simp only [pq1, ls0, ls1])
  refine' tk_q 5 44 hHeld ?hi15 ?hr15
  case hi15 => (refine ⟨_, rfl, rfl, rfl, fun w hSw => ?_⟩; (try dsimp only at hSw); go_simp; (try with_reducible rfl))
  (try simp only [pq1, ls0, ls1])
  refine' tk_q 6 45 hHeld ?hi16 ?hr16
  case hi16 => (refine ⟨_, rfl, rfl, rfl, fun w hSw => ?_⟩; (try dsimp only at hSw); go_simp; (try with_reducible rfl))
  (try simp only [pq1, ls0, ls1])
  refine' tk_q 7 46 hHeld ?hi17 ?hr17
  case hi17 => (refine ⟨_, rfl, rfl, rfl, fun w hSw => ?_⟩; (try dsimp only at hSw); go_simp; (try with_reducible rfl))
  (try simp only [pq1, ls0, ls1])
  refine' tk_call 8 ?hi18 (by kernel_rfl) ?hr18
  case hi18 => rfl
  intro K hK
  go_simp
  go_at_call 93
  refine (HCPD.out wd HWE.out HPE.out).mono ?_
  rintro e2 w2 ⟨⟨v, rfl, hv⟩, hs2, hk2⟩
  have HV := hid hv
  have HS2 := hid (HSE.out.trans hs2)
  have HK2 := hid hk2
  have HX2 := hid (HXE.out.stay hs2 (by have := HCW.out; omega))
  clear hv hs2 hk2
  go_wp2_with fail
  clear hHeld
  refine hK.out _ _ (by (try dsimp only); exact ⟨HX2.out.c6, HX2.out.c7, HX2.out.c8⟩) (fun hHeld => ?_)
  clear hK K
  (try simp only [pq1, ls0, ls1])
  refine' tk_q 9 8 hHeld ?hi19 ?hr19
  case hi19 => (refine ⟨_, rfl, rfl, rfl, fun w hSw => ?_⟩; (try dsimp only at hSw); go_simp; (try with_reducible rfl))
  (try simp only [pq1, ls0, ls1])
  refine' tk_q 10 9 hHeld ?hi1a ?hr1a
  case hi1a => (refine ⟨_, rfl, rfl, rfl, fun w hSw => ?_⟩; (try dsimp only at hSw); go_simp; (try with_reducible rfl))
  (try simp only [pq1, ls0, ls1])
  refine' tk_q 11 10 hHeld ?hi1b ?hr1b
  case hi1b => (refine ⟨_, rfl, rfl, rfl, fun w hSw => ?_⟩; (try dsimp only at hSw); go_simp; (try with_reducible rfl))
  (try simp only [pq1, ls0, ls1])
  refine wpAnyH_done (by kernel_rfl) ?_ _
  refine NoPanic.normal ?_
  go_wp2
  refine bodyPost_ret (v := .tuple #[.int .i64 d.h.pair, .int .i64 d.h.pl, v]) ?_ ?_ ?_
  ·
   simp [results, Tryd.results88, go_sem]
  ·
   rfl
  ·
   refine ⟨⟨v, ?_, ?_⟩, HS2.out, HK2.out⟩
   ·
    rw [HPX.out]
   ·
    rw [HPX.out]; exact CoSN.mono HV.out fun b _ h => Nat.lt_of_lt_of_le h (Nat.le_trans HB.out.size HDZ.out)
 have b4 : (c.h.pair == 0) = false := beq_false_of_ne a4
 have HN2 := hid (show ¬ (d.h.pair = 1 ∨ c.h.pair = 0) from fun h => h.elim a3 a4)
 have HTW := hid (show 2 ≤ c.h.pair ∧ 2 ≤ d.h.pair by have := HLC.out; have := HLD.out; omega)
 clear a1 a2 a3 a4
 have HS0 := HS
 have HKS := hid (show ∀ wx, Stay (· = cw) W wx → (fun w' => w'.cell? ⟨w.heap.size, 0, none⟩ = some (.int .i64 c.h.f0) ∧ w'.cell? ⟨w.heap.size, 1, none⟩ = some (.int .i64 c.h.f1) ∧ w'.cell? ⟨w.heap.size, 2, none⟩ = some (.int .i64 c.h.f2) ∧ w'.cell? ⟨w.heap.size, 3, none⟩ = some (.int .i64 c.h.f3) ∧ w'.cell? ⟨w.heap.size, 4, none⟩ = some (.int .i64 c.h.f4) ∧ w'.cell? ⟨w.heap.size, 5, none⟩ = some (.int .i64 c.h.f5) ∧ w'.cell? ⟨w.heap.size, 6, none⟩ = some (.int .i64 c.h.pair) ∧ w'.cell? ⟨w.heap.size, 7, none⟩ = some (.int .i64 c.h.pl) ∧ w'.cell? ⟨w.heap.size, 8, none⟩ = some (.slice pa np pc) ∧ w'.cell? ⟨w.heap.size, 9, none⟩ = some (.int .i64 c.h.fn) ∧ w'.cell? ⟨w.heap.size, 10, none⟩ = some (.int .i64 c.h.fl) ∧ w'.cell? ⟨w.heap.size, 11, none⟩ = some (.slice fa nf fc) ∧ w'.cell? ⟨(w.heap.size + 1), 0, none⟩ = some (.int .i64 d.h.f0) ∧ w'.cell? ⟨(w.heap.size + 1), 1, none⟩ = some (.int .i64 d.h.f1) ∧ w'.cell? ⟨(w.heap.size + 1), 2, none⟩ = some (.int .i64 d.h.f2) ∧ w'.cell? ⟨(w.heap.size + 1), 3, none⟩ = some (.int .i64 d.h.f3) ∧ w'.cell? ⟨(w.heap.size + 1), 4, none⟩ = some (.int .i64 d.h.f4) ∧ w'.cell? ⟨(w.heap.size + 1), 5, none⟩ = some (.int .i64 d.h.f5) ∧ w'.cell? ⟨(w.heap.size + 1), 6, none⟩ = some (.int .i64 d.h.pair) ∧ w'.cell? ⟨(w.heap.size + 1), 7, none⟩ = some (.int .i64 d.h.pl) ∧ w'.cell? ⟨(w.heap.size + 1), 8, none⟩ = some (.slice qa mp qc) ∧ w'.cell? ⟨(w.heap.size + 1), 9, none⟩ = some (.int .i64 d.h.fn) ∧ w'.cell? ⟨(w.heap.size + 1), 10, none⟩ = some (.int .i64 d.h.fl) ∧ w'.cell? ⟨(w.heap.size + 1), 11, none⟩ = some (.slice ga mf gc)) wx from fun wx hs => by
  have h1 := HXC.out.stay hs (by have := HCW.out; omega)
  have h2 := HXD.out.stay hs (by have := HCW.out; omega)
  exact ⟨h1.c0, h1.c1, h1.c2, h1.c3, h1.c4, h1.c5, h1.c6, h1.c7, h1.c8, h1.c9, h1.c10, h1.c11, h2.c0, h2.c1, h2.c2, h2.c3, h2.c4, h2.c5, h2.c6, h2.c7, h2.c8, h2.c9, h2.c10, h2.c11⟩)
 go_upto_region 5 with fail
 go_cut [11] from 48 to 55 (fun p wx => ∃ (g11 : Nat) (ra : Option Addr) (rb : Nat) (rc : Option Addr) (rd k1 : Nat) (E : Co), p = .pointer (some ⟨g11, 0, none⟩) ∧ Hid (E = compF n (carC c) (carC d)) ∧ Hid (CBox wx g11 25 ⟨E.h, .slice ra E.pairs.length rb, .slice rc E.funs.length rd⟩) ∧ Hid (CoVN (fun b => Old W.heap.size b ∨ b = g11) wx (.agg #[.int .i64 E.h.f0, .int .i64 E.h.f1, .int .i64 E.h.f2, .int .i64 E.h.f3, .int .i64 E.h.f4, .int .i64 E.h.f5, .int .i64 E.h.pair, .int .i64 E.h.pl, .slice ra E.pairs.length rb, .int .i64 E.h.fn, .int .i64 E.h.fl, .slice rc E.funs.length rd]) E) ∧ Hid (Stay (· = cw) W wx) ∧ Hid (WalkC M cw k1 wx ∧ k1 ≤ k + szC (carC c) * szC (carC d)) ∧ Hid (W.heap.size ≤ g11))
 case first =>
  (try dsimp only [List.append])
  refine wp_region_noPanic ?_
  refine wp_region_held_drew (S := (fun w' => w'.cell? ⟨w.heap.size, 0, none⟩ = some (.int .i64 c.h.f0) ∧ w'.cell? ⟨w.heap.size, 1, none⟩ = some (.int .i64 c.h.f1) ∧ w'.cell? ⟨w.heap.size, 2, none⟩ = some (.int .i64 c.h.f2) ∧ w'.cell? ⟨w.heap.size, 3, none⟩ = some (.int .i64 c.h.f3) ∧ w'.cell? ⟨w.heap.size, 4, none⟩ = some (.int .i64 c.h.f4) ∧ w'.cell? ⟨w.heap.size, 5, none⟩ = some (.int .i64 c.h.f5) ∧ w'.cell? ⟨w.heap.size, 6, none⟩ = some (.int .i64 c.h.pair) ∧ w'.cell? ⟨w.heap.size, 7, none⟩ = some (.int .i64 c.h.pl) ∧ w'.cell? ⟨w.heap.size, 8, none⟩ = some (.slice pa np pc) ∧ w'.cell? ⟨w.heap.size, 9, none⟩ = some (.int .i64 c.h.fn) ∧ w'.cell? ⟨w.heap.size, 10, none⟩ = some (.int .i64 c.h.fl) ∧ w'.cell? ⟨w.heap.size, 11, none⟩ = some (.slice fa nf fc) ∧ w'.cell? ⟨(w.heap.size + 1), 0, none⟩ = some (.int .i64 d.h.f0) ∧ w'.cell? ⟨(w.heap.size + 1), 1, none⟩ = some (.int .i64 d.h.f1) ∧ w'.cell? ⟨(w.heap.size + 1), 2, none⟩ = some (.int .i64 d.h.f2) ∧ w'.cell? ⟨(w.heap.size + 1), 3, none⟩ = some (.int .i64 d.h.f3) ∧ w'.cell? ⟨(w.heap.size + 1), 4, none⟩ = some (.int .i64 d.h.f4) ∧ w'.cell? ⟨(w.heap.size + 1), 5, none⟩ = some (.int .i64 d.h.f5) ∧ w'.cell? ⟨(w.heap.size + 1), 6, none⟩ = some (.int .i64 d.h.pair) ∧ w'.cell? ⟨(w.heap.size + 1), 7, none⟩ = some (.int .i64 d.h.pl) ∧ w'.cell? ⟨(w.heap.size + 1), 8, none⟩ = some (.slice qa mp qc) ∧ w'.cell? ⟨(w.heap.size + 1), 9, none⟩ = some (.int .i64 d.h.fn) ∧ w'.cell? ⟨(w.heap.size + 1), 10, none⟩ = some (.int .i64 d.h.fl) ∧ w'.cell? ⟨(w.heap.size + 1), 11, none⟩ = some (.slice ga mf gc))) (by kernel_rfl) (by (try dsimp only); exact HKS.out _ (Stay.of (Below.refl W.heap.size W).drew)) (fun hHeld => ?_)
  have hdr : Below W.heap.size W W.drew := (Below.refl _ _).drew
  replace HWK := hid (HWK.out.keep hdr)
  have HSS := hid (Stay.of (N := (· = cw)) hdr)
  have HZZ := hid hdr.size
  clear hdr
  generalize W.drew = wd at hHeld HWK HSS HZZ ⊢
  refine' tk_q 0 48 hHeld ?hi1c ?hr1c
  case hi1c => (refine ⟨_, rfl, rfl, rfl, fun w hSw => ?_⟩; (try dsimp only at hSw); go_simp; (try with_reducible rfl))
  (try simp only [pq1, ls0, ls1])
  refine' tk_q 1 49 hHeld ?hi1d ?hr1d
  case hi1d => (refine ⟨_, rfl, rfl, rfl, fun w hSw => ?_⟩; (try dsimp only at hSw); go_simp; (try with_reducible rfl))
  (try simp only [pq1, ls0, ls1])
  refine' tk_q 3 51 hHeld ?hi1e ?hr1e
  case hi1e => (refine ⟨_, rfl, rfl, rfl, fun w hSw => ?_⟩; (try dsimp only at hSw); go_simp; (try with_reducible rfl))
  (try simp only [pq1, ls0, ls1])
  refine' tk_q 5 53 hHeld ?hi1f ?hr1f
  case hi1f => (refine ⟨_, rfl, rfl, rfl, fun w hSw => ?_⟩; (try dsimp only at hSw); go_simp; (try with_reducible rfl))
  (try simp only [pq1, ls0, ls1])
  refine' tk_q 6 54 hHeld ?hi1g ?hr1g
  case hi1g => (refine ⟨_, rfl, rfl, rfl, fun w hSw => ?_⟩; (try dsimp only at hSw); go_simp; (try with_reducible rfl))
  (try simp only [pq1, ls0, ls1])
  refine' tk_two 2 8 ?hi1h ?hj1h (by kernel_rfl) ?ha1h ?hb1h
  case hi1h => rfl
  case hj1h => rfl
  case ha1h =>
   intro K hK
   go_simp
   go_at_call 52
   refine (HCAR.out wd (HS0.out.trans HSS.out)).mono ?_
   rintro e2 w2 ⟨⟨v, rfl, hv⟩, hb⟩
   obtain ⟨ua, ub, uc, ud, rfl, _, _⟩ := hv.form
   have hs := Stay.of (N := (· = cw)) hb
   replace HWK := hid (HWK.out.keep hb)
   replace HSS := hid (HSS.out.trans hs)
   replace HZZ := hid (Nat.le_trans HZZ.out hs.size)
   have HU := hid hv
   clear hs hb hv
   go_wp2_with fail
   clear hHeld
   refine hK.out _ _ (by (try dsimp only); exact HKS.out _ HSS.out) (fun hHeld => ?_)
   clear hK K
   (try simp only [pq1, ls0, ls1])
   refine' tk_two 4 8 ?hi1i ?hj1i (by kernel_rfl) ?ha1i ?hb1i
   case hi1i => rfl
   case hj1i => rfl
   case ha1i =>
    intro K hK
    go_simp
    go_at_call 52
    refine (HDAR.out w2 (HS0.out.trans HSS.out)).mono ?_
    rintro e2 w4 ⟨⟨v, rfl, hv⟩, hb⟩
    obtain ⟨va, vb, vc, vd, rfl, _, _⟩ := hv.form
    have hs := Stay.of (N := (· = cw)) hb
    replace HWK := hid (HWK.out.keep hb)
    replace HU := hid (CoVN.stay HU.out hs)
    replace HSS := hid (HSS.out.trans hs)
    replace HZZ := hid (Nat.le_trans HZZ.out hs.size)
    have HV := hid hv
    clear hs hb hv
    go_wp2_with fail
    clear hHeld
    refine hK.out _ _ (by (try dsimp only); exact HKS.out _ HSS.out) (fun hHeld => ?_)
    clear hK K
    (try simp only [pq1, ls0, ls1])
    refine' tk_two 7 8 ?hi1j ?hj1j (by kernel_rfl) ?ha1j ?hb1j
    case hi1j => rfl
    case hj1j => rfl
    case ha1j =>
     intro K hK
     go_simp
     go_at_call 63
     refine (HCA.out HTW.out.1 HTW.out.2 w4 _ _ (HS0.out.trans HSS.out) HWK.out HU.out HV.out).mono ?_
     rintro e2 w7 ⟨⟨v, rfl, hv⟩, hs, k1, hk1, hw1⟩
     obtain ⟨ra, rb, rc, rd, rfl, _, _⟩ := hv.form
     replace HWK := hid hw1
     have HK1 := hid hk1
     clear HU HV
     have HR := hid (show CoVN (Old W.heap.size) w7 _ (compF n (carC c) (carC d)) from CoVN.mono hv fun b _ h => Nat.lt_of_lt_of_le h HZZ.out)
     replace HSS := hid (HSS.out.trans hs)
     replace HZZ := hid (Nat.le_trans HZZ.out hs.size)
     clear hv hs hk1 hw1
     go_wp2_with fail
     clear hHeld
     refine hK.out _ _ (by (try dsimp only); exact HKS.out _ HSS.out) (fun hHeld => ?_)
     clear hK K
     (try simp only [pq1, ls0, ls1])
     refine' tk_call 8 ?hi1k (by kernel_rfl) ?hr1k
     case hi1k => rfl
     intro K hK
     go_simp
     obtain ⟨wA, hwA⟩ : ∃ x : World, x = w7.alloc (.cells #[.int .i64 0, .int .i64 0, .int .i64 0, .int .i64 0, .int .i64 0, .int .i64 0, .int .i64 0, .int .i64 0, .slice none 0 0, .int .i64 0, .int .i64 0, .slice none 0 0] 25) := ⟨_, rfl⟩
     rw [← hwA]
     have hb : Below w7.heap.size w7 wA := by rw [hwA]; exact bAl _ _
     have hs := Stay.of (N := (· = cw)) hb
     replace HWK := hid (HWK.out.keep hb)
     obtain ⟨g11, hg11⟩ : ∃ x, x = w7.heap.size := ⟨_, rfl⟩
     rw [← hg11]
     have hgb : CBox wA g11 25 ⟨⟨0, 0, 0, 0, 0, 0, 0, 0, 0, 0⟩, .slice none 0 0, .slice none 0 0⟩ := by rw [hwA, hg11]; exact CBox.made w7 25 ⟨⟨0, 0, 0, 0, 0, 0, 0, 0, 0, 0⟩, .slice none 0 0, .slice none 0 0⟩
     have HGL := hid (show W.heap.size ≤ g11 by rw [hg11]; exact HZZ.out)
     replace HR := hid (CoVN.later (M := fun b => Old W.heap.size b ∨ b = g11) HR.out hb fun b h => h.elim .inl fun h => .inr (by rw [h, hg11]; exact Nat.le_refl _))
     replace HSS := hid (HSS.out.trans hs)
     replace HZZ := hid (Nat.le_trans HZZ.out hs.size)
     have HG := hid hgb
     clear hs hb hgb hwA hg11
     clear hHeld
     refine hK.out _ _ (by (try dsimp only); exact HKS.out _ HSS.out) (fun hHeld => ?_)
     clear hK K
     (try simp only [pq1, ls0, ls1])
     obtain ⟨E, hE⟩ : ∃ E, E = compF n (carC c) (carC d) := ⟨_, rfl⟩
     rw [← hE] at HR ⊢
     have HEQ := hid hE
     clear hE
     obtain ⟨r0, r1, r2, r3, r4, r5, r6, r7, r8, r9, r10, r11⟩ := HG.out.cs
     (try dsimp only at r0 r1 r2 r3 r4 r5 r6 r7 r8 r9 r10 r11)
     obtain ⟨fr0, fr1, fr2, fr3, fr4, fr5, fr6, fr7, fr8, fr9, fr10, fr11⟩ := HG.out.frs
     refine' tk_call 9 ?hi1l (by kernel_rfl) ?hr1l
     case hi1l => rfl
     intro K hK
     go_simp
     have HGB := hid (show CBox (set12 wA g11 ⟨E.h, .slice ra E.pairs.length rb, .slice rc E.funs.length rd⟩) g11 25 ⟨E.h, .slice ra E.pairs.length rb, .slice rc E.funs.length rd⟩ from CBox.set12 HG.out)
     have HRB := hid (CoVN.set12 (g := g11) (r' := ⟨E.h, .slice ra E.pairs.length rb, .slice rc E.funs.length rd⟩) HR.out (.inr rfl))
     have HSB := hid (show Stay (· = cw) W (set12 wA g11 ⟨E.h, .slice ra E.pairs.length rb, .slice rc E.funs.length rd⟩) from HSS.out.set12 HGL.out)
     have HWB := hid (show WalkC M cw k1 (set12 wA g11 ⟨E.h, .slice ra E.pairs.length rb, .slice rc E.funs.length rd⟩) from VarIs.set12 HWK.out (by have := HGL.out; have := HSZ.out; have := HCW.out; omega))
     change K _ (set12 wA g11 ⟨E.h, .slice ra E.pairs.length rb, .slice rc E.funs.length rd⟩)
     generalize set12 wA g11 ⟨E.h, .slice ra E.pairs.length rb, .slice rc E.funs.length rd⟩ = wB at HGB HRB HSB HWB ⊢
     clear hHeld
     refine hK.out _ _ (by (try dsimp only); exact HKS.out _ HSB.out) (fun hHeld => ?_)
     clear hK K
     (try simp only [pq1, ls0, ls1])
     refine wpAnyH_done (by kernel_rfl) ?_ _
     refine NoPanic.normal ?_
     clear r0 fr0 r1 fr1 r2 fr2 r3 fr3 r4 fr4 r5 fr5 r6 fr6 r7 fr7 r8 fr8 r9 fr9 r10 fr10 r11 fr11
     go_wp2
     go_meet
     case rel => exact ⟨g11, ra, rb, rc, rd, k1, E, rfl, HEQ, HGB, HRB, HSB, hid ⟨HWB.out, HK1.out⟩, HGL⟩
    case hb1j =>
     intro K hK
     go_simp
     obtain ⟨wA, hwA⟩ : ∃ x : World, x = w4.alloc (.cells #[.int .i64 0, .int .i64 0, .int .i64 0, .int .i64 0, .int .i64 0, .int .i64 0, .int .i64 0, .int .i64 0, .slice none 0 0, .int .i64 0, .int .i64 0, .slice none 0 0] 25) := ⟨_, rfl⟩
     rw [← hwA]
     have hb : Below w4.heap.size w4 wA := by rw [hwA]; exact bAl _ _
     have hs := Stay.of (N := (· = cw)) hb
     replace HWK := hid (HWK.out.keep hb)
     obtain ⟨g11, hg11⟩ : ∃ x, x = w4.heap.size := ⟨_, rfl⟩
     rw [← hg11]
     have hgb : CBox wA g11 25 ⟨⟨0, 0, 0, 0, 0, 0, 0, 0, 0, 0⟩, .slice none 0 0, .slice none 0 0⟩ := by rw [hwA, hg11]; exact CBox.made w4 25 ⟨⟨0, 0, 0, 0, 0, 0, 0, 0, 0, 0⟩, .slice none 0 0, .slice none 0 0⟩
     have HGL := hid (show W.heap.size ≤ g11 by rw [hg11]; exact HZZ.out)
     replace HU := hid (CoVN.stay HU.out hs)
     replace HV := hid (CoVN.stay HV.out hs)
     replace HSS := hid (HSS.out.trans hs)
     replace HZZ := hid (Nat.le_trans HZZ.out hs.size)
     have HG := hid hgb
     clear hs hb hgb hwA hg11
     clear hHeld
     refine hK.out _ _ (by (try dsimp only); exact HKS.out _ HSS.out) (fun hHeld => ?_)
     clear hK K
     (try simp only [pq1, ls0, ls1])
     refine' tk_call 7 ?hi1m (by kernel_rfl) ?hr1m
     case hi1m => rfl
     intro K hK
     go_simp
     go_at_call 63
     refine (HCA.out HTW.out.1 HTW.out.2 wA _ _ (HS0.out.trans HSS.out) HWK.out HU.out HV.out).mono ?_
     rintro e2 w7 ⟨⟨v, rfl, hv⟩, hs, k1, hk1, hw1⟩
     obtain ⟨ra, rb, rc, rd, rfl, _, _⟩ := hv.form
     replace HWK := hid hw1
     have HK1 := hid hk1
     clear HU HV
     have HR := hid (show CoVN (fun b => Old W.heap.size b ∨ b = g11) w7 _ (compF n (carC c) (carC d)) from CoVN.mono hv fun b _ h => h.elim (fun h => Nat.lt_of_lt_of_le h HZZ.out) fun h => by rw [h]; exact HG.out.lt)
     replace HG := hid (HG.out.stay hs (by have := HGL.out; have := HCW.out; have := HSZ.out; omega))
     replace HSS := hid (HSS.out.trans hs)
     replace HZZ := hid (Nat.le_trans HZZ.out hs.size)
     clear hv hs hk1 hw1
     go_wp2_with fail
     clear hHeld
     refine hK.out _ _ (by (try dsimp only); exact HKS.out _ HSS.out) (fun hHeld => ?_)
     clear hK K
     (try simp only [pq1, ls0, ls1])
     obtain ⟨E, hE⟩ : ∃ E, E = compF n (carC c) (carC d) := ⟨_, rfl⟩
     rw [← hE] at HR ⊢
     have HEQ := hid hE
     clear hE
     obtain ⟨r0, r1, r2, r3, r4, r5, r6, r7, r8, r9, r10, r11⟩ := HG.out.cs
     (try dsimp only at r0 r1 r2 r3 r4 r5 r6 r7 r8 r9 r10 r11)
     obtain ⟨fr0, fr1, fr2, fr3, fr4, fr5, fr6, fr7, fr8, fr9, fr10, fr11⟩ := HG.out.frs
     refine' tk_call 9 ?hi1n (by kernel_rfl) ?hr1n
     case hi1n => rfl
     intro K hK
     go_simp
     have HGB := hid (show CBox (set12 w7 g11 ⟨E.h, .slice ra E.pairs.length rb, .slice rc E.funs.length rd⟩) g11 25 ⟨E.h, .slice ra E.pairs.length rb, .slice rc E.funs.length rd⟩ from CBox.set12 HG.out)
     have HRB := hid (CoVN.set12 (g := g11) (r' := ⟨E.h, .slice ra E.pairs.length rb, .slice rc E.funs.length rd⟩) HR.out (.inr rfl))
     have HSB := hid (show Stay (· = cw) W (set12 w7 g11 ⟨E.h, .slice ra E.pairs.length rb, .slice rc E.funs.length rd⟩) from HSS.out.set12 HGL.out)
     have HWB := hid (show WalkC M cw k1 (set12 w7 g11 ⟨E.h, .slice ra E.pairs.length rb, .slice rc E.funs.length rd⟩) from VarIs.set12 HWK.out (by have := HGL.out; have := HSZ.out; have := HCW.out; omega))
     change K _ (set12 w7 g11 ⟨E.h, .slice ra E.pairs.length rb, .slice rc E.funs.length rd⟩)
     generalize set12 w7 g11 ⟨E.h, .slice ra E.pairs.length rb, .slice rc E.funs.length rd⟩ = wB at HGB HRB HSB HWB ⊢
     clear hHeld
     refine hK.out _ _ (by (try dsimp only); exact HKS.out _ HSB.out) (fun hHeld => ?_)
     clear hK K
     (try simp only [pq1, ls0, ls1])
     refine wpAnyH_done (by kernel_rfl) ?_ _
     refine NoPanic.normal ?_
     clear r0 fr0 r1 fr1 r2 fr2 r3 fr3 r4 fr4 r5 fr5 r6 fr6 r7 fr7 r8 fr8 r9 fr9 r10 fr10 r11 fr11
     go_wp2
     go_meet
     case rel => exact ⟨g11, ra, rb, rc, rd, k1, E, rfl, HEQ, HGB, HRB, HSB, hid ⟨HWB.out, HK1.out⟩, HGL⟩
   case hb1i =>
    intro K hK
    go_simp
    obtain ⟨wA, hwA⟩ : ∃ x : World, x = w2.alloc (.cells #[.int .i64 0, .int .i64 0, .int .i64 0, .int .i64 0, .int .i64 0, .int .i64 0, .int .i64 0, .int .i64 0, .slice none 0 0, .int .i64 0, .int .i64 0, .slice none 0 0] 25) := ⟨_, rfl⟩
    rw [← hwA]
    have hb : Below w2.heap.size w2 wA := by rw [hwA]; exact bAl _ _
    have hs := Stay.of (N := (· = cw)) hb
    replace HWK := hid (HWK.out.keep hb)
    obtain ⟨g11, hg11⟩ : ∃ x, x = w2.heap.size := ⟨_, rfl⟩
    rw [← hg11]
    have hgb : CBox wA g11 25 ⟨⟨0, 0, 0, 0, 0, 0, 0, 0, 0, 0⟩, .slice none 0 0, .slice none 0 0⟩ := by rw [hwA, hg11]; exact CBox.made w2 25 ⟨⟨0, 0, 0, 0, 0, 0, 0, 0, 0, 0⟩, .slice none 0 0, .slice none 0 0⟩
    have HGL := hid (show W.heap.size ≤ g11 by rw [hg11]; exact HZZ.out)
    replace HU := hid (CoVN.stay HU.out hs)
    replace HSS := hid (HSS.out.trans hs)
    replace HZZ := hid (Nat.le_trans HZZ.out hs.size)
    have HG := hid hgb
    clear hs hb hgb hwA hg11
    clear hHeld
    refine hK.out _ _ (by (try dsimp only); exact HKS.out _ HSS.out) (fun hHeld => ?_)
    clear hK K
    (try simp only [pq1, ls0, ls1])
    refine' tk_call 4 ?hi1o (by kernel_rfl) ?hr1o
    case hi1o => rfl
    intro K hK
    go_simp
    go_at_call 52
    refine (HDAR.out wA (HS0.out.trans HSS.out)).mono ?_
    rintro e2 w4 ⟨⟨v, rfl, hv⟩, hb⟩
    obtain ⟨va, vb, vc, vd, rfl, _, _⟩ := hv.form
    have hs := Stay.of (N := (· = cw)) hb
    replace HWK := hid (HWK.out.keep hb)
    replace HU := hid (CoVN.stay HU.out hs)
    replace HG := hid (HG.out.stay hs (by have := HGL.out; have := HCW.out; have := HSZ.out; omega))
    replace HSS := hid (HSS.out.trans hs)
    replace HZZ := hid (Nat.le_trans HZZ.out hs.size)
    have HV := hid hv
    clear hs hb hv
    go_wp2_with fail
    clear hHeld
    refine hK.out _ _ (by (try dsimp only); exact HKS.out _ HSS.out) (fun hHeld => ?_)
    clear hK K
    (try simp only [pq1, ls0, ls1])
    refine' tk_call 7 ?hi1p (by kernel_rfl) ?hr1p
    case hi1p => rfl
    intro K hK
    go_simp
    go_at_call 63
    refine (HCA.out HTW.out.1 HTW.out.2 w4 _ _ (HS0.out.trans HSS.out) HWK.out HU.out HV.out).mono ?_
    rintro e2 w7 ⟨⟨v, rfl, hv⟩, hs, k1, hk1, hw1⟩
    obtain ⟨ra, rb, rc, rd, rfl, _, _⟩ := hv.form
    replace HWK := hid hw1
    have HK1 := hid hk1
    clear HU HV
    have HR := hid (show CoVN (fun b => Old W.heap.size b ∨ b = g11) w7 _ (compF n (carC c) (carC d)) from CoVN.mono hv fun b _ h => h.elim (fun h => Nat.lt_of_lt_of_le h HZZ.out) fun h => by rw [h]; exact HG.out.lt)
    replace HG := hid (HG.out.stay hs (by have := HGL.out; have := HCW.out; have := HSZ.out; omega))
    replace HSS := hid (HSS.out.trans hs)
    replace HZZ := hid (Nat.le_trans HZZ.out hs.size)
    clear hv hs hk1 hw1
    go_wp2_with fail
    clear hHeld
    refine hK.out _ _ (by (try dsimp only); exact HKS.out _ HSS.out) (fun hHeld => ?_)
    clear hK K
    (try simp only [pq1, ls0, ls1])
    obtain ⟨E, hE⟩ : ∃ E, E = compF n (carC c) (carC d) := ⟨_, rfl⟩
    rw [← hE] at HR ⊢
    have HEQ := hid hE
    clear hE
    obtain ⟨r0, r1, r2, r3, r4, r5, r6, r7, r8, r9, r10, r11⟩ := HG.out.cs
    (try dsimp only at r0 r1 r2 r3 r4 r5 r6 r7 r8 r9 r10 r11)
    obtain ⟨fr0, fr1, fr2, fr3, fr4, fr5, fr6, fr7, fr8, fr9, fr10, fr11⟩ := HG.out.frs
    refine' tk_call 9 ?hi1q (by kernel_rfl) ?hr1q
    case hi1q => rfl
    intro K hK
    go_simp
    have HGB := hid (show CBox (set12 w7 g11 ⟨E.h, .slice ra E.pairs.length rb, .slice rc E.funs.length rd⟩) g11 25 ⟨E.h, .slice ra E.pairs.length rb, .slice rc E.funs.length rd⟩ from CBox.set12 HG.out)
    have HRB := hid (CoVN.set12 (g := g11) (r' := ⟨E.h, .slice ra E.pairs.length rb, .slice rc E.funs.length rd⟩) HR.out (.inr rfl))
    have HSB := hid (show Stay (· = cw) W (set12 w7 g11 ⟨E.h, .slice ra E.pairs.length rb, .slice rc E.funs.length rd⟩) from HSS.out.set12 HGL.out)
    have HWB := hid (show WalkC M cw k1 (set12 w7 g11 ⟨E.h, .slice ra E.pairs.length rb, .slice rc E.funs.length rd⟩) from VarIs.set12 HWK.out (by have := HGL.out; have := HSZ.out; have := HCW.out; omega))
    change K _ (set12 w7 g11 ⟨E.h, .slice ra E.pairs.length rb, .slice rc E.funs.length rd⟩)
    generalize set12 w7 g11 ⟨E.h, .slice ra E.pairs.length rb, .slice rc E.funs.length rd⟩ = wB at HGB HRB HSB HWB ⊢
    clear hHeld
    refine hK.out _ _ (by (try dsimp only); exact HKS.out _ HSB.out) (fun hHeld => ?_)
    clear hK K
    (try simp only [pq1, ls0, ls1])
    refine wpAnyH_done (by kernel_rfl) ?_ _
    refine NoPanic.normal ?_
    clear r0 fr0 r1 fr1 r2 fr2 r3 fr3 r4 fr4 r5 fr5 r6 fr6 r7 fr7 r8 fr8 r9 fr9 r10 fr10 r11 fr11
    go_wp2
    go_meet
    case rel => exact ⟨g11, ra, rb, rc, rd, k1, E, rfl, HEQ, HGB, HRB, HSB, hid ⟨HWB.out, HK1.out⟩, HGL⟩
  case hb1h =>
   intro K hK
   go_simp
   obtain ⟨wA, hwA⟩ : ∃ x : World, x = wd.alloc (.cells #[.int .i64 0, .int .i64 0, .int .i64 0, .int .i64 0, .int .i64 0, .int .i64 0, .int .i64 0, .int .i64 0, .slice none 0 0, .int .i64 0, .int .i64 0, .slice none 0 0] 25) := ⟨_, rfl⟩
   rw [← hwA]
   have hb : Below wd.heap.size wd wA := by rw [hwA]; exact bAl _ _
   have hs := Stay.of (N := (· = cw)) hb
   replace HWK := hid (HWK.out.keep hb)
   obtain ⟨g11, hg11⟩ : ∃ x, x = wd.heap.size := ⟨_, rfl⟩
   rw [← hg11]
   have hgb : CBox wA g11 25 ⟨⟨0, 0, 0, 0, 0, 0, 0, 0, 0, 0⟩, .slice none 0 0, .slice none 0 0⟩ := by rw [hwA, hg11]; exact CBox.made wd 25 ⟨⟨0, 0, 0, 0, 0, 0, 0, 0, 0, 0⟩, .slice none 0 0, .slice none 0 0⟩
   have HGL := hid (show W.heap.size ≤ g11 by rw [hg11]; exact HZZ.out)
   replace HSS := hid (HSS.out.trans hs)
   replace HZZ := hid (Nat.le_trans HZZ.out hs.size)
   have HG := hid hgb
   clear hs hb hgb hwA hg11
   clear hHeld
   refine hK.out _ _ (by (try dsimp only); exact HKS.out _ HSS.out) (fun hHeld => ?_)
   clear hK K
   (try simp only [pq1, ls0, ls1])
   refine' tk_call 2 ?hi1r (by kernel_rfl) ?hr1r
   case hi1r => rfl
   intro K hK
   go_simp
   go_at_call 52
   refine (HCAR.out wA (HS0.out.trans HSS.out)).mono ?_
   rintro e2 w2 ⟨⟨v, rfl, hv⟩, hb⟩
   obtain ⟨ua, ub, uc, ud, rfl, _, _⟩ := hv.form
   have hs := Stay.of (N := (· = cw)) hb
   replace HWK := hid (HWK.out.keep hb)
   replace HG := hid (HG.out.stay hs (by have := HGL.out; have := HCW.out; have := HSZ.out; omega))
   replace HSS := hid (HSS.out.trans hs)
   replace HZZ := hid (Nat.le_trans HZZ.out hs.size)
   have HU := hid hv
   clear hs hb hv
   go_wp2_with fail
   clear hHeld
   refine hK.out _ _ (by (try dsimp only); exact HKS.out _ HSS.out) (fun hHeld => ?_)
   clear hK K
   (try simp only [pq1, ls0, ls1])
   refine' tk_call 4 ?hi1s (by kernel_rfl) ?hr1s
   case hi1s => rfl
   intro K hK
   go_simp
   go_at_call 52
   refine (HDAR.out w2 (HS0.out.trans HSS.out)).mono ?_
   rintro e2 w4 ⟨⟨v, rfl, hv⟩, hb⟩
   obtain ⟨va, vb, vc, vd, rfl, _, _⟩ := hv.form
   have hs := Stay.of (N := (· = cw)) hb
   replace HWK := hid (HWK.out.keep hb)
   replace HU := hid (CoVN.stay HU.out hs)
   replace HG := hid (HG.out.stay hs (by have := HGL.out; have := HCW.out; have := HSZ.out; omega))
   replace HSS := hid (HSS.out.trans hs)
   replace HZZ := hid (Nat.le_trans HZZ.out hs.size)
   have HV := hid hv
   clear hs hb hv
   go_wp2_with fail
   clear hHeld
   refine hK.out _ _ (by (try dsimp only); exact HKS.out _ HSS.out) (fun hHeld => ?_)
   clear hK K
   (try simp only [pq1, ls0, ls1])
   refine' tk_call 7 ?hi1t (by kernel_rfl) ?hr1t
   case hi1t => rfl
   intro K hK
   go_simp
   go_at_call 63
   refine (HCA.out HTW.out.1 HTW.out.2 w4 _ _ (HS0.out.trans HSS.out) HWK.out HU.out HV.out).mono ?_
   rintro e2 w7 ⟨⟨v, rfl, hv⟩, hs, k1, hk1, hw1⟩
   obtain ⟨ra, rb, rc, rd, rfl, _, _⟩ := hv.form
   replace HWK := hid hw1
   have HK1 := hid hk1
   clear HU HV
   have HR := hid (show CoVN (fun b => Old W.heap.size b ∨ b = g11) w7 _ (compF n (carC c) (carC d)) from CoVN.mono hv fun b _ h => h.elim (fun h => Nat.lt_of_lt_of_le h HZZ.out) fun h => by rw [h]; exact HG.out.lt)
   replace HG := hid (HG.out.stay hs (by have := HGL.out; have := HCW.out; have := HSZ.out; omega))
   replace HSS := hid (HSS.out.trans hs)
   replace HZZ := hid (Nat.le_trans HZZ.out hs.size)
   clear hv hs hk1 hw1
   go_wp2_with fail
   clear hHeld
   refine hK.out _ _ (by (try dsimp only); exact HKS.out _ HSS.out) (fun hHeld => ?_)
   clear hK K
   (try simp only [pq1, ls0, ls1])
   obtain ⟨E, hE⟩ : ∃ E, E = compF n (carC c) (carC d) := ⟨_, rfl⟩
   rw [← hE] at HR ⊢
   have HEQ := hid hE
   clear hE
   obtain ⟨r0, r1, r2, r3, r4, r5, r6, r7, r8, r9, r10, r11⟩ := HG.out.cs
   (try dsimp only at r0 r1 r2 r3 r4 r5 r6 r7 r8 r9 r10 r11)
   obtain ⟨fr0, fr1, fr2, fr3, fr4, fr5, fr6, fr7, fr8, fr9, fr10, fr11⟩ := HG.out.frs
   refine' tk_call 9 ?hi1u (by kernel_rfl) ?hr1u
   case hi1u => rfl
   intro K hK
   go_simp
   have HGB := hid (show CBox (set12 w7 g11 ⟨E.h, .slice ra E.pairs.length rb, .slice rc E.funs.length rd⟩) g11 25 ⟨E.h, .slice ra E.pairs.length rb, .slice rc E.funs.length rd⟩ from CBox.set12 HG.out)
   have HRB := hid (CoVN.set12 (g := g11) (r' := ⟨E.h, .slice ra E.pairs.length rb, .slice rc E.funs.length rd⟩) HR.out (.inr rfl))
   have HSB := hid (show Stay (· = cw) W (set12 w7 g11 ⟨E.h, .slice ra E.pairs.length rb, .slice rc E.funs.length rd⟩) from HSS.out.set12 HGL.out)
   have HWB := hid (show WalkC M cw k1 (set12 w7 g11 ⟨E.h, .slice ra E.pairs.length rb, .slice rc E.funs.length rd⟩) from VarIs.set12 HWK.out (by have := HGL.out; have := HSZ.out; have := HCW.out; omega))
   change K _ (set12 w7 g11 ⟨E.h, .slice ra E.pairs.length rb, .slice rc E.funs.length rd⟩)
   generalize set12 w7 g11 ⟨E.h, .slice ra E.pairs.length rb, .slice rc E.funs.length rd⟩ = wB at HGB HRB HSB HWB ⊢
   clear hHeld
   refine hK.out _ _ (by (try dsimp only); exact HKS.out _ HSB.out) (fun hHeld => ?_)
   clear hK K
   (try simp only [pq1, ls0, ls1])
   refine wpAnyH_done (by kernel_rfl) ?_ _
   refine NoPanic.normal ?_
   clear r0 fr0 r1 fr1 r2 fr2 r3 fr3 r4 fr4 r5 fr5 r6 fr6 r7 fr7 r8 fr8 r9 fr9 r10 fr10 r11 fr11
   go_wp2
   go_meet
   case rel => exact ⟨g11, ra, rb, rc, rd, k1, E, rfl, HEQ, HGB, HRB, HSB, hid ⟨HWB.out, HK1.out⟩, HGL⟩
 case rest =>
  obtain ⟨g11, ra, rb, rc, rd, k1, E, rfl, HEE, HG, HRC, HSW, HWW, HGL⟩ := hcut
  have HK2S := hid (show ∀ wx, Stay (· = cw) wc wx → (fun w' => w'.cell? ⟨w.heap.size, 0, none⟩ = some (.int .i64 c.h.f0) ∧ w'.cell? ⟨w.heap.size, 1, none⟩ = some (.int .i64 c.h.f1) ∧ w'.cell? ⟨w.heap.size, 2, none⟩ = some (.int .i64 c.h.f2) ∧ w'.cell? ⟨w.heap.size, 3, none⟩ = some (.int .i64 c.h.f3) ∧ w'.cell? ⟨w.heap.size, 4, none⟩ = some (.int .i64 c.h.f4) ∧ w'.cell? ⟨w.heap.size, 5, none⟩ = some (.int .i64 c.h.f5) ∧ w'.cell? ⟨w.heap.size, 6, none⟩ = some (.int .i64 c.h.pair) ∧ w'.cell? ⟨w.heap.size, 7, none⟩ = some (.int .i64 c.h.pl) ∧ w'.cell? ⟨w.heap.size, 8, none⟩ = some (.slice pa np pc) ∧ w'.cell? ⟨w.heap.size, 9, none⟩ = some (.int .i64 c.h.fn) ∧ w'.cell? ⟨w.heap.size, 10, none⟩ = some (.int .i64 c.h.fl) ∧ w'.cell? ⟨w.heap.size, 11, none⟩ = some (.slice fa nf fc) ∧ w'.cell? ⟨(w.heap.size + 1), 0, none⟩ = some (.int .i64 d.h.f0) ∧ w'.cell? ⟨(w.heap.size + 1), 1, none⟩ = some (.int .i64 d.h.f1) ∧ w'.cell? ⟨(w.heap.size + 1), 2, none⟩ = some (.int .i64 d.h.f2) ∧ w'.cell? ⟨(w.heap.size + 1), 3, none⟩ = some (.int .i64 d.h.f3) ∧ w'.cell? ⟨(w.heap.size + 1), 4, none⟩ = some (.int .i64 d.h.f4) ∧ w'.cell? ⟨(w.heap.size + 1), 5, none⟩ = some (.int .i64 d.h.f5) ∧ w'.cell? ⟨(w.heap.size + 1), 6, none⟩ = some (.int .i64 d.h.pair) ∧ w'.cell? ⟨(w.heap.size + 1), 7, none⟩ = some (.int .i64 d.h.pl) ∧ w'.cell? ⟨(w.heap.size + 1), 8, none⟩ = some (.slice qa mp qc) ∧ w'.cell? ⟨(w.heap.size + 1), 9, none⟩ = some (.int .i64 d.h.fn) ∧ w'.cell? ⟨(w.heap.size + 1), 10, none⟩ = some (.int .i64 d.h.fl) ∧ w'.cell? ⟨(w.heap.size + 1), 11, none⟩ = some (.slice ga mf gc) ∧ w'.cell? ⟨g11, 0, none⟩ = some (.int .i64 E.h.f0) ∧ w'.cell? ⟨g11, 1, none⟩ = some (.int .i64 E.h.f1) ∧ w'.cell? ⟨g11, 2, none⟩ = some (.int .i64 E.h.f2) ∧ w'.cell? ⟨g11, 3, none⟩ = some (.int .i64 E.h.f3) ∧ w'.cell? ⟨g11, 4, none⟩ = some (.int .i64 E.h.f4) ∧ w'.cell? ⟨g11, 5, none⟩ = some (.int .i64 E.h.f5) ∧ w'.cell? ⟨g11, 6, none⟩ = some (.int .i64 E.h.pair) ∧ w'.cell? ⟨g11, 7, none⟩ = some (.int .i64 E.h.pl) ∧ w'.cell? ⟨g11, 8, none⟩ = some (.slice ra E.pairs.length rb) ∧ w'.cell? ⟨g11, 9, none⟩ = some (.int .i64 E.h.fn) ∧ w'.cell? ⟨g11, 10, none⟩ = some (.int .i64 E.h.fl) ∧ w'.cell? ⟨g11, 11, none⟩ = some (.slice rc E.funs.length rd)) wx from fun wx hs => by
   have h1 := (HXC.out.stay HSW.out (by have := HCW.out; omega)).stay hs (by have := HCW.out; omega)
   have h2 := (HXD.out.stay HSW.out (by have := HCW.out; omega)).stay hs (by have := HCW.out; omega)
   have h3 := HG.out.stay hs (by have := HGL.out; have := HCW.out; have := HSZ.out; omega)
   exact ⟨h1.c0, h1.c1, h1.c2, h1.c3, h1.c4, h1.c5, h1.c6, h1.c7, h1.c8, h1.c9, h1.c10, h1.c11, h2.c0, h2.c1, h2.c2, h2.c3, h2.c4, h2.c5, h2.c6, h2.c7, h2.c8, h2.c9, h2.c10, h2.c11, h3.c0, h3.c1, h3.c2, h3.c3, h3.c4, h3.c5, h3.c6, h3.c7, h3.c8, h3.c9, h3.c10, h3.c11⟩)
  have HBZ := hid (show w.heap.size ≤ wc.heap.size from Nat.le_trans HB.out.size HSW.out.size)
  clear x0 y0 x1 y1 x2 y2 x3 y3 x4 y4 x5 y5 x6 y6 x7 y7 x8 y8 x9 y9 x10 y10 x11 y11
  obtain ⟨x0, x1, x2, x3, x4, x5, x6, x7, x8, x9, x10, x11⟩ := (HXC.out.stay HSW.out (by have := HCW.out; omega)).cs
  (try dsimp only at x0 x1 x2 x3 x4 x5 x6 x7 x8 x9 x10 x11)
  obtain ⟨y0, y1, y2, y3, y4, y5, y6, y7, y8, y9, y10, y11⟩ := (HXD.out.stay HSW.out (by have := HCW.out; omega)).cs
  (try dsimp only at y0 y1 y2 y3 y4 y5 y6 y7 y8 y9 y10 y11)
  by_cases a5 : c.h.pair = 3
  ·
   have b5 : (c.h.pair == 3) = true := by rw [a5]; rfl
   by_cases a6 : d.h.pair = 3
   ·
    have b6 : (d.h.pair == 3) = true := by rw [a6]; rfl
    have HPX := hid (show P = (3, eithC c.h.pl d.h.pl, [compF n (carC c) (carC d)]) by rw [HP.out, if_neg HN1.out, if_neg HN2.out, if_pos ⟨a5, a6⟩])
    clear a5 a6
    go_upto_region 7 with fail
    (try dsimp only [List.append])
    refine wp_region_noPanic ?_
    refine wp_region_held_drew (S := (fun w' => w'.cell? ⟨w.heap.size, 0, none⟩ = some (.int .i64 c.h.f0) ∧ w'.cell? ⟨w.heap.size, 1, none⟩ = some (.int .i64 c.h.f1) ∧ w'.cell? ⟨w.heap.size, 2, none⟩ = some (.int .i64 c.h.f2) ∧ w'.cell? ⟨w.heap.size, 3, none⟩ = some (.int .i64 c.h.f3) ∧ w'.cell? ⟨w.heap.size, 4, none⟩ = some (.int .i64 c.h.f4) ∧ w'.cell? ⟨w.heap.size, 5, none⟩ = some (.int .i64 c.h.f5) ∧ w'.cell? ⟨w.heap.size, 6, none⟩ = some (.int .i64 c.h.pair) ∧ w'.cell? ⟨w.heap.size, 7, none⟩ = some (.int .i64 c.h.pl) ∧ w'.cell? ⟨w.heap.size, 8, none⟩ = some (.slice pa np pc) ∧ w'.cell? ⟨w.heap.size, 9, none⟩ = some (.int .i64 c.h.fn) ∧ w'.cell? ⟨w.heap.size, 10, none⟩ = some (.int .i64 c.h.fl) ∧ w'.cell? ⟨w.heap.size, 11, none⟩ = some (.slice fa nf fc) ∧ w'.cell? ⟨(w.heap.size + 1), 0, none⟩ = some (.int .i64 d.h.f0) ∧ w'.cell? ⟨(w.heap.size + 1), 1, none⟩ = some (.int .i64 d.h.f1) ∧ w'.cell? ⟨(w.heap.size + 1), 2, none⟩ = some (.int .i64 d.h.f2) ∧ w'.cell? ⟨(w.heap.size + 1), 3, none⟩ = some (.int .i64 d.h.f3) ∧ w'.cell? ⟨(w.heap.size + 1), 4, none⟩ = some (.int .i64 d.h.f4) ∧ w'.cell? ⟨(w.heap.size + 1), 5, none⟩ = some (.int .i64 d.h.f5) ∧ w'.cell? ⟨(w.heap.size + 1), 6, none⟩ = some (.int .i64 d.h.pair) ∧ w'.cell? ⟨(w.heap.size + 1), 7, none⟩ = some (.int .i64 d.h.pl) ∧ w'.cell? ⟨(w.heap.size + 1), 8, none⟩ = some (.slice qa mp qc) ∧ w'.cell? ⟨(w.heap.size + 1), 9, none⟩ = some (.int .i64 d.h.fn) ∧ w'.cell? ⟨(w.heap.size + 1), 10, none⟩ = some (.int .i64 d.h.fl) ∧ w'.cell? ⟨(w.heap.size + 1), 11, none⟩ = some (.slice ga mf gc) ∧ w'.cell? ⟨g11, 0, none⟩ = some (.int .i64 E.h.f0) ∧ w'.cell? ⟨g11, 1, none⟩ = some (.int .i64 E.h.f1) ∧ w'.cell? ⟨g11, 2, none⟩ = some (.int .i64 E.h.f2) ∧ w'.cell? ⟨g11, 3, none⟩ = some (.int .i64 E.h.f3) ∧ w'.cell? ⟨g11, 4, none⟩ = some (.int .i64 E.h.f4) ∧ w'.cell? ⟨g11, 5, none⟩ = some (.int .i64 E.h.f5) ∧ w'.cell? ⟨g11, 6, none⟩ = some (.int .i64 E.h.pair) ∧ w'.cell? ⟨g11, 7, none⟩ = some (.int .i64 E.h.pl) ∧ w'.cell? ⟨g11, 8, none⟩ = some (.slice ra E.pairs.length rb) ∧ w'.cell? ⟨g11, 9, none⟩ = some (.int .i64 E.h.fn) ∧ w'.cell? ⟨g11, 10, none⟩ = some (.int .i64 E.h.fl) ∧ w'.cell? ⟨g11, 11, none⟩ = some (.slice rc E.funs.length rd))) (by kernel_rfl) (by (try dsimp only); exact HK2S.out _ (Stay.of (Below.refl wc.heap.size wc).drew)) (fun hHeld => ?_)
    have hdr : Below wc.heap.size wc wc.drew := (Below.refl _ _).drew
    have HSV := hid (Stay.of (N := (· = cw)) hdr)
    have HR0 := hid (HRC.out.below hdr)
    have HWK1 := hid (HWW.out.1.keep hdr)
    have HWZ := hid hdr.size
    clear hdr
    generalize wc.drew = wd at hHeld HSV HR0 HWK1 HWZ ⊢
    refine' tk_q 0 64 hHeld ?hi1v ?hr1v
    case hi1v => (refine ⟨_, rfl, rfl, rfl, fun w hSw => ?_⟩; (try dsimp only at hSw); go_simp; (try with_reducible rfl))
    (try simp only [pq1, ls0, ls1])
    refine' tk_q 1 65 hHeld ?hi1w ?hr1w
    case hi1w => (refine ⟨_, rfl, rfl, rfl, fun w hSw => ?_⟩; (try dsimp only at hSw); go_simp; (try with_reducible rfl))
    (try simp only [pq1, ls0, ls1])
    refine' tk_q 2 66 hHeld ?hi1x ?hr1x
    case hi1x => (refine ⟨_, rfl, rfl, rfl, fun w hSw => ?_⟩; (try dsimp only at hSw); go_simp; (try with_reducible rfl))
    (try simp only [pq1, ls0, ls1])
    refine' tk_q 3 67 hHeld ?hi1y ?hr1y
    case hi1y => (refine ⟨_, rfl, rfl, rfl, fun w hSw => ?_⟩; (try dsimp only at hSw); go_simp; (try with_reducible rfl))
    (try simp only [pq1, ls0, ls1])
    refine' tk_q 6 70 hHeld ?hi1z ?hr1z
    case hi1z => (refine ⟨_, rfl, rfl, rfl, fun w hSw => ?_⟩; (try dsimp only at hSw); go_simp; (try with_reducible rfl))
    (try simp only [pq1, ls0, ls1])
    refine' tk_two 4 7 ?hi20 ?hj20 (by kernel_rfl) ?ha20 ?hb20
    case hi20 => rfl
    case hj20 => rfl
    case ha20 =>
     intro K hK
     go_simp
     obtain ⟨wi, h4⟩ : ∃ x : World, x = wd.alloc (.cells #[.int .i64 c.h.pl, .int .i64 d.h.pl] 3) := ⟨_, rfl⟩
     rw [← h4]
     have hb : Below wd.heap.size wd wi := by rw [h4]; exact bAl _ _
     obtain ⟨gi, hgi⟩ : ∃ x, x = wd.heap.size := ⟨_, rfl⟩
     have HI := hid (show wi.heap[gi]? = some (.cells #[.int .i64 c.h.pl, .int .i64 d.h.pl] 3 (0, 0)) by rw [h4, hgi]; exact heap_alloc_new _ _)
     rw [← hgi]
     replace HSV := hid (HSV.out.then hb)
     replace HR0 := hid (HR0.out.below hb)
     replace HWK1 := hid (HWK1.out.keep hb)
     replace HWZ := hid (Nat.le_trans HWZ.out hb.size)
     clear hb h4 hgi
     clear hHeld
     refine hK.out _ _ (by (try dsimp only); exact HK2S.out _ HSV.out) (fun hHeld => ?_)
     clear hK K
     (try simp only [pq1, ls0, ls1])
     refine' tk_two 5 7 ?hi21 ?hj21 (by kernel_rfl) ?ha21 ?hb21
     case hi21 => rfl
     case hj21 => rfl
     case ha21 =>
      intro K hK
      go_simp
      go_at_call 87
      refine (or_p c.h.pl d.h.pl gi wi (Lib.cell_of_heap HI.out 0) (Lib.cell_of_heap HI.out 1)).mono ?_
      rintro e3 w5 ⟨rfl, rfl⟩
      go_wp2_with fail
      clear hHeld
      refine hK.out _ _ (by (try dsimp only); exact HK2S.out _ HSV.out) (fun hHeld => ?_)
      clear hK K
      (try simp only [pq1, ls0, ls1])
      refine' tk_q 8 8 hHeld ?hi22 ?hr22
      case hi22 => (refine ⟨_, rfl, rfl, rfl, fun w hSw => ?_⟩; (try dsimp only at hSw); go_simp; (try with_reducible rfl))
      (try simp only [pq1, ls0, ls1])
      refine' tk_q 9 9 hHeld ?hi23 ?hr23
      case hi23 => (refine ⟨_, rfl, rfl, rfl, fun w hSw => ?_⟩; (try dsimp only at hSw); go_simp; (try with_reducible rfl))
      (try simp only [pq1, ls0, ls1])
      refine' tk_call 7 ?hi24 (by kernel_rfl) ?hr24
      case hi24 => rfl
      intro K hK
      go_simp
      obtain ⟨wr, h7⟩ : ∃ x : World, x = w5.alloc (.cells #[.int .i64 E.h.f0, .int .i64 E.h.f1, .int .i64 E.h.f2, .int .i64 E.h.f3, .int .i64 E.h.f4, .int .i64 E.h.f5, .int .i64 E.h.pair, .int .i64 E.h.pl, .slice ra E.pairs.length rb, .int .i64 E.h.fn, .int .i64 E.h.fl, .slice rc E.funs.length rd] 25) := ⟨_, rfl⟩
      rw [← h7]
      have hb : Below w5.heap.size w5 wr := by rw [h7]; exact bAl _ _
      obtain ⟨gr, hgr⟩ : ∃ x, x = w5.heap.size := ⟨_, rfl⟩
      have HRW := hid (show CoS wr (Lc (Old w.heap.size) wr) (.slice (some ⟨gr, 0, none⟩) 1 1) [E] by rw [h7, hgr]; exact CoS.one (r := ⟨E.h, .slice ra E.pairs.length rb, .slice rc E.funs.length rd⟩) (N := Old w.heap.size) (fun b h => by have h1 := HBZ.out; have h2 := HWZ.out; have h3 : b < w.heap.size := h; omega) (CoVN.raw (h := E.h) (CoVN.mono HR0.out fun b _ h => .inl (Nat.lt_of_lt_of_le h HB.out.size))))
      rw [← hgr]
      replace HSV := hid (HSV.out.then hb)
      replace HR0 := hid (HR0.out.below hb)
      replace HWK1 := hid (HWK1.out.keep hb)
      replace HWZ := hid (Nat.le_trans HWZ.out hb.size)
      replace HI := hid ((hb.block gi (Array.getElem?_eq_some_iff.1 HI.out).1).trans HI.out)
      clear hb h7 hgr
      clear hHeld
      refine hK.out _ _ (by (try dsimp only); exact HK2S.out _ HSV.out) (fun hHeld => ?_)
      clear hK K
      (try simp only [pq1, ls0, ls1])
      refine' tk_q 10 10 hHeld ?hi25 ?hr25
      case hi25 => (refine ⟨_, rfl, rfl, rfl, fun w hSw => ?_⟩; (try dsimp only at hSw); go_simp; (try with_reducible rfl))
      (try simp only [pq1, ls0, ls1])
      refine wpAnyH_done (by kernel_rfl) ?_ _
      refine NoPanic.normal ?_
      go_wp2
      refine bodyPost_ret (v := .tuple #[.int .i64 3, .int .i64 (eithC c.h.pl d.h.pl), .slice (some ⟨gr, 0, none⟩) 1 1]) ?_ ?_ ?_
      ·
       simp [results, Tryd.results88, go_sem]
      ·
       rfl
      ·
       refine ⟨⟨_, by rw [HPX.out], ?_⟩, HS.out.trans (HSW.out.trans HSV.out), k1, by have h1 := HWW.out.2; have h2 := HCA2.out HTW.out.1 HTW.out.2; omega, HWK1.out⟩
       rw [HPX.out, ← HEE.out]; exact HRW.out
     case hb21 =>
      intro K hK
      go_simp
      obtain ⟨wr, h7⟩ : ∃ x : World, x = wi.alloc (.cells #[.int .i64 E.h.f0, .int .i64 E.h.f1, .int .i64 E.h.f2, .int .i64 E.h.f3, .int .i64 E.h.f4, .int .i64 E.h.f5, .int .i64 E.h.pair, .int .i64 E.h.pl, .slice ra E.pairs.length rb, .int .i64 E.h.fn, .int .i64 E.h.fl, .slice rc E.funs.length rd] 25) := ⟨_, rfl⟩
      rw [← h7]
      have hb : Below wi.heap.size wi wr := by rw [h7]; exact bAl _ _
      obtain ⟨gr, hgr⟩ : ∃ x, x = wi.heap.size := ⟨_, rfl⟩
      have HRW := hid (show CoS wr (Lc (Old w.heap.size) wr) (.slice (some ⟨gr, 0, none⟩) 1 1) [E] by rw [h7, hgr]; exact CoS.one (r := ⟨E.h, .slice ra E.pairs.length rb, .slice rc E.funs.length rd⟩) (N := Old w.heap.size) (fun b h => by have h1 := HBZ.out; have h2 := HWZ.out; have h3 : b < w.heap.size := h; omega) (CoVN.raw (h := E.h) (CoVN.mono HR0.out fun b _ h => .inl (Nat.lt_of_lt_of_le h HB.out.size))))
      rw [← hgr]
      replace HSV := hid (HSV.out.then hb)
      replace HR0 := hid (HR0.out.below hb)
      replace HWK1 := hid (HWK1.out.keep hb)
      replace HWZ := hid (Nat.le_trans HWZ.out hb.size)
      replace HI := hid ((hb.block gi (Array.getElem?_eq_some_iff.1 HI.out).1).trans HI.out)
      clear hb h7 hgr
      clear hHeld
      refine hK.out _ _ (by (try dsimp only); exact HK2S.out _ HSV.out) (fun hHeld => ?_)
      clear hK K
      (try simp only [pq1, ls0, ls1])
      refine' tk_call 5 ?hi26 (by kernel_rfl) ?hr26
      case hi26 => rfl
      intro K hK
      go_simp
      go_at_call 87
      refine (or_p c.h.pl d.h.pl gi wr (Lib.cell_of_heap HI.out 0) (Lib.cell_of_heap HI.out 1)).mono ?_
      rintro e3 w5 ⟨rfl, rfl⟩
      go_wp2_with fail
      clear hHeld
      refine hK.out _ _ (by (try dsimp only); exact HK2S.out _ HSV.out) (fun hHeld => ?_)
      clear hK K
      (try simp only [pq1, ls0, ls1])
      refine' tk_q 8 8 hHeld ?hi27 ?hr27
      case hi27 => (refine ⟨_, rfl, rfl, rfl, fun w hSw => ?_⟩; (try dsimp only at hSw); go_simp; (try with_reducible rfl))
      (try simp only [pq1, ls0, ls1])
      refine' tk_q 9 9 hHeld ?hi28 ?hr28
      case hi28 => (refine ⟨_, rfl, rfl, rfl, fun w hSw => ?_⟩; (try dsimp only at hSw); go_simp; (try with_reducible rfl))
      (try simp only [pq1, ls0, ls1])
      refine' tk_q 10 10 hHeld ?hi29 ?hr29
      case hi29 => (refine ⟨_, rfl, rfl, rfl, fun w hSw => ?_⟩; (try dsimp only at hSw); go_simp; (try with_reducible rfl))
      (try simp only [pq1, ls0, ls1])
      refine wpAnyH_done (by kernel_rfl) ?_ _
      refine NoPanic.normal ?_
      go_wp2
      refine bodyPost_ret (v := .tuple #[.int .i64 3, .int .i64 (eithC c.h.pl d.h.pl), .slice (some ⟨gr, 0, none⟩) 1 1]) ?_ ?_ ?_
      ·
       simp [results, Tryd.results88, go_sem]
      ·
       rfl
      ·
       refine ⟨⟨_, by rw [HPX.out], ?_⟩, HS.out.trans (HSW.out.trans HSV.out), k1, by have h1 := HWW.out.2; have h2 := HCA2.out HTW.out.1 HTW.out.2; omega, HWK1.out⟩
       rw [HPX.out, ← HEE.out]; exact HRW.out
    case hb20 =>
     intro K hK
     go_simp
     obtain ⟨wr, h7⟩ : ∃ x : World, x = wd.alloc (.cells #[.int .i64 E.h.f0, .int .i64 E.h.f1, .int .i64 E.h.f2, .int .i64 E.h.f3, .int .i64 E.h.f4, .int .i64 E.h.f5, .int .i64 E.h.pair, .int .i64 E.h.pl, .slice ra E.pairs.length rb, .int .i64 E.h.fn, .int .i64 E.h.fl, .slice rc E.funs.length rd] 25) := ⟨_, rfl⟩
     rw [← h7]
     have hb : Below wd.heap.size wd wr := by rw [h7]; exact bAl _ _
     obtain ⟨gr, hgr⟩ : ∃ x, x = wd.heap.size := ⟨_, rfl⟩
     have HRW := hid (show CoS wr (Lc (Old w.heap.size) wr) (.slice (some ⟨gr, 0, none⟩) 1 1) [E] by rw [h7, hgr]; exact CoS.one (r := ⟨E.h, .slice ra E.pairs.length rb, .slice rc E.funs.length rd⟩) (N := Old w.heap.size) (fun b h => by have h1 := HBZ.out; have h2 := HWZ.out; have h3 : b < w.heap.size := h; omega) (CoVN.raw (h := E.h) (CoVN.mono HR0.out fun b _ h => .inl (Nat.lt_of_lt_of_le h HB.out.size))))
     rw [← hgr]
     replace HSV := hid (HSV.out.then hb)
     replace HR0 := hid (HR0.out.below hb)
     replace HWK1 := hid (HWK1.out.keep hb)
     replace HWZ := hid (Nat.le_trans HWZ.out hb.size)
     clear hb h7 hgr
     clear hHeld
     refine hK.out _ _ (by (try dsimp only); exact HK2S.out _ HSV.out) (fun hHeld => ?_)
     clear hK K
     (try simp only [pq1, ls0, ls1])
     refine' tk_call 4 ?hi2a (by kernel_rfl) ?hr2a
     case hi2a => rfl
     intro K hK
     go_simp
     obtain ⟨wi, h4⟩ : ∃ x : World, x = wr.alloc (.cells #[.int .i64 c.h.pl, .int .i64 d.h.pl] 3) := ⟨_, rfl⟩
     rw [← h4]
     have hb : Below wr.heap.size wr wi := by rw [h4]; exact bAl _ _
     obtain ⟨gi, hgi⟩ : ∃ x, x = wr.heap.size := ⟨_, rfl⟩
     have HI := hid (show wi.heap[gi]? = some (.cells #[.int .i64 c.h.pl, .int .i64 d.h.pl] 3 (0, 0)) by rw [h4, hgi]; exact heap_alloc_new _ _)
     rw [← hgi]
     replace HSV := hid (HSV.out.then hb)
     replace HR0 := hid (HR0.out.below hb)
     replace HWK1 := hid (HWK1.out.keep hb)
     replace HWZ := hid (Nat.le_trans HWZ.out hb.size)
     replace HRW := hid (CoSN.below HRW.out hb)
     clear hb h4 hgi
     clear hHeld
     refine hK.out _ _ (by (try dsimp only); exact HK2S.out _ HSV.out) (fun hHeld => ?_)
     clear hK K
     (try simp only [pq1, ls0, ls1])
     refine' tk_call 5 ?hi2b (by kernel_rfl) ?hr2b
     case hi2b => rfl
     intro K hK
     go_simp
     go_at_call 87
     refine (or_p c.h.pl d.h.pl gi wi (Lib.cell_of_heap HI.out 0) (Lib.cell_of_heap HI.out 1)).mono ?_
     rintro e3 w5 ⟨rfl, rfl⟩
     go_wp2_with fail
     clear hHeld
     refine hK.out _ _ (by (try dsimp only); exact HK2S.out _ HSV.out) (fun hHeld => ?_)
     clear hK K
     (try simp only [pq1, ls0, ls1])
     refine' tk_q 8 8 hHeld ?hi2c ?hr2c
     case hi2c => (refine ⟨_, rfl, rfl, rfl, fun w hSw => ?_⟩; (try dsimp only at hSw); go_simp; (try with_reducible rfl))
     (try simp only [pq1, ls0, ls1])
     refine' tk_q 9 9 hHeld ?hi2d ?hr2d
     case hi2d => (refine ⟨_, rfl, rfl, rfl, fun w hSw => ?_⟩; (try dsimp only at hSw); go_simp; (try with_reducible rfl))
     (try simp only [pq1, ls0, ls1])
     refine' tk_q 10 10 hHeld ?hi2e ?hr2e
     case hi2e => (refine ⟨_, rfl, rfl, rfl, fun w hSw => ?_⟩; (try dsimp only at hSw); go_simp; (try with_reducible rfl))
     (try simp only [pq1, ls0, ls1])
     refine wpAnyH_done (by kernel_rfl) ?_ _
     refine NoPanic.normal ?_
     go_wp2
     refine bodyPost_ret (v := .tuple #[.int .i64 3, .int .i64 (eithC c.h.pl d.h.pl), .slice (some ⟨gr, 0, none⟩) 1 1]) ?_ ?_ ?_
     ·
      simp [results, Tryd.results88, go_sem]
     ·
      rfl
     ·
      refine ⟨⟨_, by rw [HPX.out], ?_⟩, HS.out.trans (HSW.out.trans HSV.out), k1, by have h1 := HWW.out.2; have h2 := HCA2.out HTW.out.1 HTW.out.2; omega, HWK1.out⟩
      rw [HPX.out, ← HEE.out]; exact HRW.out
   ·
    have b6 : (d.h.pair == 3) = false := beq_false_of_ne a6
    have HNB := hid (show ¬ (c.h.pair = 3 ∧ d.h.pair = 3) from fun h => a6 h.2)
    have HPX := hid (show P = (2, 0, [compF n (carC c) (carC d), compF n (cdrC c) (cdrC d)]) by rw [HP.out, if_neg HN1.out, if_neg HN2.out, if_neg HNB.out])
    clear a5 a6
    go_upto_region 8 with fail
    (try dsimp only [List.append])
    refine wp_region_noPanic ?_
    refine wp_region_held_drew (S := (fun w' => w'.cell? ⟨w.heap.size, 0, none⟩ = some (.int .i64 c.h.f0) ∧ w'.cell? ⟨w.heap.size, 1, none⟩ = some (.int .i64 c.h.f1) ∧ w'.cell? ⟨w.heap.size, 2, none⟩ = some (.int .i64 c.h.f2) ∧ w'.cell? ⟨w.heap.size, 3, none⟩ = some (.int .i64 c.h.f3) ∧ w'.cell? ⟨w.heap.size, 4, none⟩ = some (.int .i64 c.h.f4) ∧ w'.cell? ⟨w.heap.size, 5, none⟩ = some (.int .i64 c.h.f5) ∧ w'.cell? ⟨w.heap.size, 6, none⟩ = some (.int .i64 c.h.pair) ∧ w'.cell? ⟨w.heap.size, 7, none⟩ = some (.int .i64 c.h.pl) ∧ w'.cell? ⟨w.heap.size, 8, none⟩ = some (.slice pa np pc) ∧ w'.cell? ⟨w.heap.size, 9, none⟩ = some (.int .i64 c.h.fn) ∧ w'.cell? ⟨w.heap.size, 10, none⟩ = some (.int .i64 c.h.fl) ∧ w'.cell? ⟨w.heap.size, 11, none⟩ = some (.slice fa nf fc) ∧ w'.cell? ⟨(w.heap.size + 1), 0, none⟩ = some (.int .i64 d.h.f0) ∧ w'.cell? ⟨(w.heap.size + 1), 1, none⟩ = some (.int .i64 d.h.f1) ∧ w'.cell? ⟨(w.heap.size + 1), 2, none⟩ = some (.int .i64 d.h.f2) ∧ w'.cell? ⟨(w.heap.size + 1), 3, none⟩ = some (.int .i64 d.h.f3) ∧ w'.cell? ⟨(w.heap.size + 1), 4, none⟩ = some (.int .i64 d.h.f4) ∧ w'.cell? ⟨(w.heap.size + 1), 5, none⟩ = some (.int .i64 d.h.f5) ∧ w'.cell? ⟨(w.heap.size + 1), 6, none⟩ = some (.int .i64 d.h.pair) ∧ w'.cell? ⟨(w.heap.size + 1), 7, none⟩ = some (.int .i64 d.h.pl) ∧ w'.cell? ⟨(w.heap.size + 1), 8, none⟩ = some (.slice qa mp qc) ∧ w'.cell? ⟨(w.heap.size + 1), 9, none⟩ = some (.int .i64 d.h.fn) ∧ w'.cell? ⟨(w.heap.size + 1), 10, none⟩ = some (.int .i64 d.h.fl) ∧ w'.cell? ⟨(w.heap.size + 1), 11, none⟩ = some (.slice ga mf gc) ∧ w'.cell? ⟨g11, 0, none⟩ = some (.int .i64 E.h.f0) ∧ w'.cell? ⟨g11, 1, none⟩ = some (.int .i64 E.h.f1) ∧ w'.cell? ⟨g11, 2, none⟩ = some (.int .i64 E.h.f2) ∧ w'.cell? ⟨g11, 3, none⟩ = some (.int .i64 E.h.f3) ∧ w'.cell? ⟨g11, 4, none⟩ = some (.int .i64 E.h.f4) ∧ w'.cell? ⟨g11, 5, none⟩ = some (.int .i64 E.h.f5) ∧ w'.cell? ⟨g11, 6, none⟩ = some (.int .i64 E.h.pair) ∧ w'.cell? ⟨g11, 7, none⟩ = some (.int .i64 E.h.pl) ∧ w'.cell? ⟨g11, 8, none⟩ = some (.slice ra E.pairs.length rb) ∧ w'.cell? ⟨g11, 9, none⟩ = some (.int .i64 E.h.fn) ∧ w'.cell? ⟨g11, 10, none⟩ = some (.int .i64 E.h.fl) ∧ w'.cell? ⟨g11, 11, none⟩ = some (.slice rc E.funs.length rd))) (by kernel_rfl) (by (try dsimp only); exact HK2S.out _ (Stay.of (Below.refl wc.heap.size wc).drew)) (fun hHeld => ?_)
    have hdr : Below wc.heap.size wc wc.drew := (Below.refl _ _).drew
    have HSV := hid (Stay.of (N := (· = cw)) hdr)
    have HR0 := hid (HRC.out.below hdr)
    have HWK1 := hid (HWW.out.1.keep hdr)
    have HWZ := hid hdr.size
    clear hdr
    generalize wc.drew = wd at hHeld HSV HR0 HWK1 HWZ ⊢
    refine' tk_q 0 72 hHeld ?hi2f ?hr2f
    case hi2f => (refine ⟨_, rfl, rfl, rfl, fun w hSw => ?_⟩; (try dsimp only at hSw); go_simp; (try with_reducible rfl))
    (try simp only [pq1, ls0, ls1])
    refine' tk_q 1 73 hHeld ?hi2g ?hr2g
    case hi2g => (refine ⟨_, rfl, rfl, rfl, fun w hSw => ?_⟩; (try dsimp only at hSw); go_simp; (try with_reducible rfl))
    (try simp only [pq1, ls0, ls1])
    refine' tk_q 2 74 hHeld ?hi2h ?hr2h
    case hi2h => (refine ⟨_, rfl, rfl, rfl, fun w hSw => ?_⟩; (try dsimp only at hSw); go_simp; (try with_reducible rfl))
    (try simp only [pq1, ls0, ls1])
    refine' tk_q 4 76 hHeld ?hi2i ?hr2i
    case hi2i => (refine ⟨_, rfl, rfl, rfl, fun w hSw => ?_⟩; (try dsimp only at hSw); go_simp; (try with_reducible rfl))
    (try simp only [pq1, ls0, ls1])
    refine' tk_q 6 78 hHeld ?hi2j ?hr2j
    case hi2j => (refine ⟨_, rfl, rfl, rfl, fun w hSw => ?_⟩; (try dsimp only at hSw); go_simp; (try with_reducible rfl))
    (try simp only [pq1, ls0, ls1])
    refine' tk_q 7 79 hHeld ?hi2k ?hr2k
    case hi2k => (refine ⟨_, rfl, rfl, rfl, fun w hSw => ?_⟩; (try dsimp only at hSw); go_simp; (try with_reducible rfl))
    (try simp only [pq1, ls0, ls1])
    refine' tk_call 3 ?hi2l (by kernel_rfl) ?hr2l
    case hi2l => rfl
    intro K hK
    go_simp
    go_at_call 53
    refine (HCDR.out wd (HS.out.trans (HSW.out.trans HSV.out))).mono ?_
    rintro e2 w3 ⟨⟨v, rfl, hv⟩, hb⟩
    obtain ⟨ua, ub, uc, ud, rfl, _, _⟩ := hv.form
    replace HSV := hid (HSV.out.then hb)
    replace HR0 := hid (HR0.out.below hb)
    replace HWK1 := hid (HWK1.out.keep hb)
    replace HWZ := hid (Nat.le_trans HWZ.out hb.size)
    have HU := hid hv
    clear hb hv
    go_wp2_with fail
    clear hHeld
    refine hK.out _ _ (by (try dsimp only); exact HK2S.out _ HSV.out) (fun hHeld => ?_)
    clear hK K
    (try simp only [pq1, ls0, ls1])
    refine' tk_call 5 ?hi2m (by kernel_rfl) ?hr2m
    case hi2m => rfl
    intro K hK
    go_simp
    go_at_call 53
    refine (HDDR.out w3 (HS.out.trans (HSW.out.trans HSV.out))).mono ?_
    rintro e2 w5 ⟨⟨v, rfl, hv⟩, hb⟩
    obtain ⟨va, vb, vc, vd, rfl, _, _⟩ := hv.form
    replace HSV := hid (HSV.out.then hb)
    replace HR0 := hid (HR0.out.below hb)
    replace HWK1 := hid (HWK1.out.keep hb)
    replace HWZ := hid (Nat.le_trans HWZ.out hb.size)
    replace HU := hid (HU.out.below hb)
    have HV := hid hv
    clear hb hv
    go_wp2_with fail
    clear hHeld
    refine hK.out _ _ (by (try dsimp only); exact HK2S.out _ HSV.out) (fun hHeld => ?_)
    clear hK K
    (try simp only [pq1, ls0, ls1])
    refine' tk_call 8 ?hi2n (by kernel_rfl) ?hr2n
    case hi2n => rfl
    intro K hK
    go_simp
    go_at_call 63
    refine (HCB.out HTW.out.1 HTW.out.2 HNB.out w5 _ _ k1 HWW.out.2 (HS.out.trans (HSW.out.trans HSV.out)) HWK1.out HU.out HV.out).mono ?_
    rintro e2 w8 ⟨⟨v, rfl, hv⟩, hs, hk2⟩
    obtain ⟨F, hF⟩ : ∃ F, F = compF n (cdrC c) (cdrC d) := ⟨_, rfl⟩
    rw [← hF] at hv
    obtain ⟨ta, tb, tc, td, rfl, _, _⟩ := hv.form
    have HFF := hid hF
    have HKF := hid hk2
    have HT8 := hid (show CoVN (Old w.heap.size) w8 _ F from CoVN.mono hv fun b _ h => by have h1 := HBZ.out; have h2 := HWZ.out; have h3 : b < w.heap.size := h; show b < w5.heap.size; omega)
    have HR8 := hid (show CoVN (Old w.heap.size) w8 _ E from CoVN.mono (CoVN.stay (CoVN.mono (M := fun b => Old w.heap.size b ∨ b = cw) HR0.out fun b _ h => .inl (h.elim (fun h => Nat.lt_of_lt_of_le h HB.out.size) fun h => by rw [h]; have := HCW.out; have := HSZ.out; show cw < W.heap.size; omega)) (hs.up fun b h => .inr h)) fun b _ h => .inl h)
    replace HSV := hid (HSV.out.trans hs)
    replace HWZ := hid (Nat.le_trans HWZ.out hs.size)
    clear hF hv hs hk2 HU HV
    go_wp2_with fail
    clear hHeld
    refine hK.out _ _ (by (try dsimp only); exact HK2S.out _ HSV.out) (fun hHeld => ?_)
    clear hK K
    (try simp only [pq1, ls0, ls1])
    refine' tk_q 10 8 hHeld ?hi2o ?hr2o
    case hi2o => (refine ⟨_, rfl, rfl, rfl, fun w hSw => ?_⟩; (try dsimp only at hSw); go_simp; (try with_reducible rfl))
    (try simp only [pq1, ls0, ls1])
    refine' tk_q 11 9 hHeld ?hi2p ?hr2p
    case hi2p => (refine ⟨_, rfl, rfl, rfl, fun w hSw => ?_⟩; (try dsimp only at hSw); go_simp; (try with_reducible rfl))
    (try simp only [pq1, ls0, ls1])
    refine' tk_call 9 ?hi2q (by kernel_rfl) ?hr2q
    case hi2q => rfl
    intro K hK
    go_simp
    obtain ⟨w9, h9⟩ : ∃ x : World, x = w8.alloc (.cells #[.int .i64 E.h.f0, .int .i64 E.h.f1, .int .i64 E.h.f2, .int .i64 E.h.f3, .int .i64 E.h.f4, .int .i64 E.h.f5, .int .i64 E.h.pair, .int .i64 E.h.pl, .slice ra E.pairs.length rb, .int .i64 E.h.fn, .int .i64 E.h.fl, .slice rc E.funs.length rd, .int .i64 F.h.f0, .int .i64 F.h.f1, .int .i64 F.h.f2, .int .i64 F.h.f3, .int .i64 F.h.f4, .int .i64 F.h.f5, .int .i64 F.h.pair, .int .i64 F.h.pl, .slice ta F.pairs.length tb, .int .i64 F.h.fn, .int .i64 F.h.fl, .slice tc F.funs.length td] 25) := ⟨_, rfl⟩
    rw [← h9]
    have hb : Below w8.heap.size w8 w9 := by rw [h9]; exact bAl _ _
    obtain ⟨gr, hgr⟩ : ∃ x, x = w8.heap.size := ⟨_, rfl⟩
    rw [← hgr]
    have HRW := hid (show CoS w9 (Lc (Old w.heap.size) w9) (.slice (some ⟨gr, 0, none⟩) 2 2) [E, F] from CoS.two7 (r := ⟨E.h, .slice ra E.pairs.length rb, .slice rc E.funs.length rd⟩) (s := ⟨F.h, .slice ta F.pairs.length tb, .slice tc F.funs.length td⟩) (by rw [h9, hgr]; exact heap_alloc_new _ _) (fun h => by have h1 := HBZ.out; have h2 := HWZ.out; have h3 : gr < w.heap.size := h; omega) (CoVN.raw (h := E.h) (HR8.out.below hb)) (CoVN.raw (h := F.h) (HT8.out.below hb)))
    have HSV9 := hid (HSV.out.then hb)
    have HKF9 := hid (show ∃ k', k' ≤ k + cost ∧ WalkC M cw k' w9 by obtain ⟨k', h1, h2⟩ := HKF.out; exact ⟨k', h1, h2.keep hb⟩)
    clear hb h9 hgr
    clear hHeld
    refine hK.out _ _ (by (try dsimp only); exact HK2S.out _ HSV9.out) (fun hHeld => ?_)
    clear hK K
    (try simp only [pq1, ls0, ls1])
    refine' tk_q 12 10 hHeld ?hi2r ?hr2r
    case hi2r => (refine ⟨_, rfl, rfl, rfl, fun w hSw => ?_⟩; (try dsimp only at hSw); go_simp; (try with_reducible rfl))
    (try simp only [pq1, ls0, ls1])
    refine wpAnyH_done (by kernel_rfl) ?_ _
    refine NoPanic.normal ?_
    go_wp2
    refine bodyPost_ret (v := .tuple #[.int .i64 2, .int .i64 0, .slice (some ⟨gr, 0, none⟩) 2 2]) ?_ ?_ ?_
    ·
     simp [results, Tryd.results88, go_sem]
    ·
     rfl
    ·
     refine ⟨⟨_, by rw [HPX.out], ?_⟩, HS.out.trans (HSW.out.trans HSV9.out), HKF9.out⟩
     rw [HPX.out, ← HEE.out, ← HFF.out]; exact HRW.out
  ·
   have b5 : (c.h.pair == 3) = false := beq_false_of_ne a5
   have HNB := hid (show ¬ (c.h.pair = 3 ∧ d.h.pair = 3) from fun h => a5 h.1)
   have HPX := hid (show P = (2, 0, [compF n (carC c) (carC d), compF n (cdrC c) (cdrC d)]) by rw [HP.out, if_neg HN1.out, if_neg HN2.out, if_neg HNB.out])
   clear a5
   go_upto_region 8 with fail
   (try dsimp only [List.append])
   refine wp_region_noPanic ?_
   refine wp_region_held_drew (S := (fun w' => w'.cell? ⟨w.heap.size, 0, none⟩ = some (.int .i64 c.h.f0) ∧ w'.cell? ⟨w.heap.size, 1, none⟩ = some (.int .i64 c.h.f1) ∧ w'.cell? ⟨w.heap.size, 2, none⟩ = some (.int .i64 c.h.f2) ∧ w'.cell? ⟨w.heap.size, 3, none⟩ = some (.int .i64 c.h.f3) ∧ w'.cell? ⟨w.heap.size, 4, none⟩ = some (.int .i64 c.h.f4) ∧ w'.cell? ⟨w.heap.size, 5, none⟩ = some (.int .i64 c.h.f5) ∧ w'.cell? ⟨w.heap.size, 6, none⟩ = some (.int .i64 c.h.pair) ∧ w'.cell? ⟨w.heap.size, 7, none⟩ = some (.int .i64 c.h.pl) ∧ w'.cell? ⟨w.heap.size, 8, none⟩ = some (.slice pa np pc) ∧ w'.cell? ⟨w.heap.size, 9, none⟩ = some (.int .i64 c.h.fn) ∧ w'.cell? ⟨w.heap.size, 10, none⟩ = some (.int .i64 c.h.fl) ∧ w'.cell? ⟨w.heap.size, 11, none⟩ = some (.slice fa nf fc) ∧ w'.cell? ⟨(w.heap.size + 1), 0, none⟩ = some (.int .i64 d.h.f0) ∧ w'.cell? ⟨(w.heap.size + 1), 1, none⟩ = some (.int .i64 d.h.f1) ∧ w'.cell? ⟨(w.heap.size + 1), 2, none⟩ = some (.int .i64 d.h.f2) ∧ w'.cell? ⟨(w.heap.size + 1), 3, none⟩ = some (.int .i64 d.h.f3) ∧ w'.cell? ⟨(w.heap.size + 1), 4, none⟩ = some (.int .i64 d.h.f4) ∧ w'.cell? ⟨(w.heap.size + 1), 5, none⟩ = some (.int .i64 d.h.f5) ∧ w'.cell? ⟨(w.heap.size + 1), 6, none⟩ = some (.int .i64 d.h.pair) ∧ w'.cell? ⟨(w.heap.size + 1), 7, none⟩ = some (.int .i64 d.h.pl) ∧ w'.cell? ⟨(w.heap.size + 1), 8, none⟩ = some (.slice qa mp qc) ∧ w'.cell? ⟨(w.heap.size + 1), 9, none⟩ = some (.int .i64 d.h.fn) ∧ w'.cell? ⟨(w.heap.size + 1), 10, none⟩ = some (.int .i64 d.h.fl) ∧ w'.cell? ⟨(w.heap.size + 1), 11, none⟩ = some (.slice ga mf gc) ∧ w'.cell? ⟨g11, 0, none⟩ = some (.int .i64 E.h.f0) ∧ w'.cell? ⟨g11, 1, none⟩ = some (.int .i64 E.h.f1) ∧ w'.cell? ⟨g11, 2, none⟩ = some (.int .i64 E.h.f2) ∧ w'.cell? ⟨g11, 3, none⟩ = some (.int .i64 E.h.f3) ∧ w'.cell? ⟨g11, 4, none⟩ = some (.int .i64 E.h.f4) ∧ w'.cell? ⟨g11, 5, none⟩ = some (.int .i64 E.h.f5) ∧ w'.cell? ⟨g11, 6, none⟩ = some (.int .i64 E.h.pair) ∧ w'.cell? ⟨g11, 7, none⟩ = some (.int .i64 E.h.pl) ∧ w'.cell? ⟨g11, 8, none⟩ = some (.slice ra E.pairs.length rb) ∧ w'.cell? ⟨g11, 9, none⟩ = some (.int .i64 E.h.fn) ∧ w'.cell? ⟨g11, 10, none⟩ = some (.int .i64 E.h.fl) ∧ w'.cell? ⟨g11, 11, none⟩ = some (.slice rc E.funs.length rd))) (by kernel_rfl) (by (try dsimp only); exact HK2S.out _ (Stay.of (Below.refl wc.heap.size wc).drew)) (fun hHeld => ?_)
   have hdr : Below wc.heap.size wc wc.drew := (Below.refl _ _).drew
   have HSV := hid (Stay.of (N := (· = cw)) hdr)
   have HR0 := hid (HRC.out.below hdr)
   have HWK1 := hid (HWW.out.1.keep hdr)
   have HWZ := hid hdr.size
   clear hdr
   generalize wc.drew = wd at hHeld HSV HR0 HWK1 HWZ ⊢
   refine' tk_q 0 72 hHeld ?hi2s ?hr2s
   case hi2s => (refine ⟨_, rfl, rfl, rfl, fun w hSw => ?_⟩; (try dsimp only at hSw); go_simp; (try with_reducible rfl))
   (try simp only [pq1, ls0, ls1])
   refine' tk_q 1 73 hHeld ?hi2t ?hr2t
   case hi2t => (refine ⟨_, rfl, rfl, rfl, fun w hSw => ?_⟩; (try dsimp only at hSw); go_simp; (try with_reducible rfl))
   (try simp only [pq1, ls0, ls1])
   refine' tk_q 2 74 hHeld ?hi2u ?hr2u
   case hi2u => (refine ⟨_, rfl, rfl, rfl, fun w hSw => ?_⟩; (try dsimp only at hSw); go_simp; (try with_reducible rfl))
   (try simp only [pq1, ls0, ls1])
   refine' tk_q 4 76 hHeld ?hi2v ?hr2v
   case hi2v => (refine ⟨_, rfl, rfl, rfl, fun w hSw => ?_⟩; (try dsimp only at hSw); go_simp; (try with_reducible rfl))
   (try simp only [pq1, ls0, ls1])
   refine' tk_q 6 78 hHeld ?hi2w ?hr2w
   case hi2w => (refine ⟨_, rfl, rfl, rfl, fun w hSw => ?_⟩; (try dsimp only at hSw); go_simp; (try with_reducible rfl))
   (try simp only [pq1, ls0, ls1])
   refine' tk_q 7 79 hHeld ?hi2x ?hr2x
   case hi2x => (refine ⟨_, rfl, rfl, rfl, fun w hSw => ?_⟩; (try dsimp only at hSw); go_simp; (try with_reducible rfl))
   (try simp only [pq1, ls0, ls1])
   refine' tk_call 3 ?hi2y (by kernel_rfl) ?hr2y
   case hi2y => rfl
   intro K hK
   go_simp
   go_at_call 53
   refine (HCDR.out wd (HS.out.trans (HSW.out.trans HSV.out))).mono ?_
   rintro e2 w3 ⟨⟨v, rfl, hv⟩, hb⟩
   obtain ⟨ua, ub, uc, ud, rfl, _, _⟩ := hv.form
   replace HSV := hid (HSV.out.then hb)
   replace HR0 := hid (HR0.out.below hb)
   replace HWK1 := hid (HWK1.out.keep hb)
   replace HWZ := hid (Nat.le_trans HWZ.out hb.size)
   have HU := hid hv
   clear hb hv
   go_wp2_with fail
   clear hHeld
   refine hK.out _ _ (by (try dsimp only); exact HK2S.out _ HSV.out) (fun hHeld => ?_)
   clear hK K
   (try simp only [pq1, ls0, ls1])
   refine' tk_call 5 ?hi2z (by kernel_rfl) ?hr2z
   case hi2z => rfl
   intro K hK
   go_simp
   go_at_call 53
   refine (HDDR.out w3 (HS.out.trans (HSW.out.trans HSV.out))).mono ?_
   rintro e2 w5 ⟨⟨v, rfl, hv⟩, hb⟩
   obtain ⟨va, vb, vc, vd, rfl, _, _⟩ := hv.form
   replace HSV := hid (HSV.out.then hb)
   replace HR0 := hid (HR0.out.below hb)
   replace HWK1 := hid (HWK1.out.keep hb)
   replace HWZ := hid (Nat.le_trans HWZ.out hb.size)
   replace HU := hid (HU.out.below hb)
   have HV := hid hv
   clear hb hv
   go_wp2_with fail
   clear hHeld
   refine hK.out _ _ (by (try dsimp only); exact HK2S.out _ HSV.out) (fun hHeld => ?_)
   clear hK K
   (try simp only [pq1, ls0, ls1])
   refine' tk_call 8 ?hi30 (by kernel_rfl) ?hr30
   case hi30 => rfl
   intro K hK
   go_simp
   go_at_call 63
   refine (HCB.out HTW.out.1 HTW.out.2 HNB.out w5 _ _ k1 HWW.out.2 (HS.out.trans (HSW.out.trans HSV.out)) HWK1.out HU.out HV.out).mono ?_
   rintro e2 w8 ⟨⟨v, rfl, hv⟩, hs, hk2⟩
   obtain ⟨F, hF⟩ : ∃ F, F = compF n (cdrC c) (cdrC d) := ⟨_, rfl⟩
   rw [← hF] at hv
   obtain ⟨ta, tb, tc, td, rfl, _, _⟩ := hv.form
   have HFF := hid hF
   have HKF := hid hk2
   have HT8 := hid (show CoVN (Old w.heap.size) w8 _ F from CoVN.mono hv fun b _ h => by have h1 := HBZ.out; have h2 := HWZ.out; have h3 : b < w.heap.size := h; show b < w5.heap.size; omega)
   have HR8 := hid (show CoVN (Old w.heap.size) w8 _ E from CoVN.mono (CoVN.stay (CoVN.mono (M := fun b => Old w.heap.size b ∨ b = cw) HR0.out fun b _ h => .inl (h.elim (fun h => Nat.lt_of_lt_of_le h HB.out.size) fun h => by rw [h]; have := HCW.out; have := HSZ.out; show cw < W.heap.size; omega)) (hs.up fun b h => .inr h)) fun b _ h => .inl h)
   replace HSV := hid (HSV.out.trans hs)
   replace HWZ := hid (Nat.le_trans HWZ.out hs.size)
   clear hF hv hs hk2 HU HV
   go_wp2_with fail
   clear hHeld
   refine hK.out _ _ (by (try dsimp only); exact HK2S.out _ HSV.out) (fun hHeld => ?_)
   clear hK K
   (try simp only [pq1, ls0, ls1])
   refine' tk_q 10 8 hHeld ?hi31 ?hr31
   case hi31 => (refine ⟨_, rfl, rfl, rfl, fun w hSw => ?_⟩; (try dsimp only at hSw); go_simp; (try with_reducible rfl))
   (try simp only [pq1, ls0, ls1])
   refine' tk_q 11 9 hHeld ?hi32 ?hr32
   case hi32 => (refine ⟨_, rfl, rfl, rfl, fun w hSw => ?_⟩; (try dsimp only at hSw); go_simp; (try with_reducible rfl))
   (try simp only [pq1, ls0, ls1])
   refine' tk_call 9 ?hi33 (by kernel_rfl) ?hr33
   case hi33 => rfl
   intro K hK
   go_simp
   obtain ⟨w9, h9⟩ : ∃ x : World, x = w8.alloc (.cells #[.int .i64 E.h.f0, .int .i64 E.h.f1, .int .i64 E.h.f2, .int .i64 E.h.f3, .int .i64 E.h.f4, .int .i64 E.h.f5, .int .i64 E.h.pair, .int .i64 E.h.pl, .slice ra E.pairs.length rb, .int .i64 E.h.fn, .int .i64 E.h.fl, .slice rc E.funs.length rd, .int .i64 F.h.f0, .int .i64 F.h.f1, .int .i64 F.h.f2, .int .i64 F.h.f3, .int .i64 F.h.f4, .int .i64 F.h.f5, .int .i64 F.h.pair, .int .i64 F.h.pl, .slice ta F.pairs.length tb, .int .i64 F.h.fn, .int .i64 F.h.fl, .slice tc F.funs.length td] 25) := ⟨_, rfl⟩
   rw [← h9]
   have hb : Below w8.heap.size w8 w9 := by rw [h9]; exact bAl _ _
   obtain ⟨gr, hgr⟩ : ∃ x, x = w8.heap.size := ⟨_, rfl⟩
   rw [← hgr]
   have HRW := hid (show CoS w9 (Lc (Old w.heap.size) w9) (.slice (some ⟨gr, 0, none⟩) 2 2) [E, F] from CoS.two7 (r := ⟨E.h, .slice ra E.pairs.length rb, .slice rc E.funs.length rd⟩) (s := ⟨F.h, .slice ta F.pairs.length tb, .slice tc F.funs.length td⟩) (by rw [h9, hgr]; exact heap_alloc_new _ _) (fun h => by have h1 := HBZ.out; have h2 := HWZ.out; have h3 : gr < w.heap.size := h; omega) (CoVN.raw (h := E.h) (HR8.out.below hb)) (CoVN.raw (h := F.h) (HT8.out.below hb)))
   have HSV9 := hid (HSV.out.then hb)
   have HKF9 := hid (show ∃ k', k' ≤ k + cost ∧ WalkC M cw k' w9 by obtain ⟨k', h1, h2⟩ := HKF.out; exact ⟨k', h1, h2.keep hb⟩)
   clear hb h9 hgr
   clear hHeld
   refine hK.out _ _ (by (try dsimp only); exact HK2S.out _ HSV9.out) (fun hHeld => ?_)
   clear hK K
   (try simp only [pq1, ls0, ls1])
   refine' tk_q 12 10 hHeld ?hi34 ?hr34
   case hi34 => (refine ⟨_, rfl, rfl, rfl, fun w hSw => ?_⟩; (try dsimp only at hSw); go_simp; (try with_reducible rfl))
   (try simp only [pq1, ls0, ls1])
   refine wpAnyH_done (by kernel_rfl) ?_ _
   refine NoPanic.normal ?_
   go_wp2
   refine bodyPost_ret (v := .tuple #[.int .i64 2, .int .i64 0, .slice (some ⟨gr, 0, none⟩) 2 2]) ?_ ?_ ?_
   ·
    simp [results, Tryd.results88, go_sem]
   ·
    rfl
   ·
    refine ⟨⟨_, by rw [HPX.out], ?_⟩, HS.out.trans (HSW.out.trans HSV9.out), HKF9.out⟩
    rw [HPX.out, ← HEE.out, ← HFF.out]; exact HRW.out
end Go.Proofs.YtlalnkabfigodaaDoor
