import Derived.Test.YtlalnkabfigodaaDoorCoTf
-- joined
namespace Go.Proofs.YtlalnkabfigodaaDoor
open Go.RowKit

set_option maxRecDepth 100000 in
set_option maxHeartbeats 8000000 in
theorem or_p (a c : Int) (b : Nat) (w : World) (h0 : w.cell? ⟨b, 0, none⟩ = some (.int .i64 a)) (h1 : w.cell? ⟨b, 1, none⟩ = some (.int .i64 c)) : Calls Tryd.prog 87 #[.slice (some ⟨b, 0, none⟩) 2 2] w fun e w' => e = .returned (.int .i64 (eithC a c)) ∧ w' = w := by
  obtain ⟨z, hz⟩ : ∃ z, z = eithC a c := ⟨_, rfl⟩
  rw [← hz]
  unfold eithC at hz
  have HZ := Lib.hid hz
  have H0 := Lib.hid h0
  have H1 := Lib.hid h1
  clear hz h0 h1
  go_enter Tryd.func87, Tryd.ntmps87
  go_wp2
  go_loopw [5, 8] (fun _ iv wr => wr = w ∧ ∃ i : Nat, i ≤ 2 ∧ iv = .int .i64 i ∧ Hid (1 ≤ i → a = 0) ∧ Hid (2 ≤ i → c = 0)) (fun _ iv _ => 2 - (intOf iv).toNat)
  case atStart => exact ⟨rfl, 0, by omega, rfl, Lib.hid fun h => by omega, Lib.hid fun h => by omega⟩
  case round =>
    obtain ⟨rfl, i, hi, rfl, HA, HC⟩ := hrel
    rcases (by omega : i = 0 ∨ i = 1 ∨ i = 2) with rfl | rfl | rfl
    · have h0 := H0.out
      by_cases ha : a = 0
      · have ba : (a != 0) = false := by rw [ha]; rfl
        have HA0 := Lib.hid ha
        clear ha
        go_wp2
        exact ⟨⟨trivial, 1, by omega, rfl, Lib.hid fun _ => HA0.out, Lib.hid fun h => by omega⟩, by simp [intOf]⟩
      · have ba : (a != 0) = true := bne_iff_ne.2 ha
        have HZ2 := Lib.hid (show z = a by rw [HZ.out, if_pos ha])
        clear ha
        go_wp2
        go_ret
        exact ⟨ret_int7 HZ2.out.symm, rfl⟩
    · have h1 := H1.out
      have HA0 := HA.out (by omega)
      have HZ2 := Lib.hid (show z = c by rw [HZ.out, if_neg (fun h => h HA0)])
      clear HA0
      by_cases hc : c = 0
      · have bc : (c != 0) = false := by rw [hc]; rfl
        have HC0 := Lib.hid hc
        clear hc
        go_wp2
        exact ⟨⟨trivial, 2, by omega, rfl, Lib.hid fun _ => HA.out (by omega), Lib.hid fun _ => HC0.out⟩, by simp [intOf]⟩
      · have bc : (c != 0) = true := bne_iff_ne.2 hc
        clear hc
        go_wp2
        go_ret
        exact ⟨ret_int7 HZ2.out.symm, rfl⟩
    · have HZ2 := Lib.hid (show z = 0 by rw [HZ.out, if_neg (fun h => h (HA.out (by omega))), HC.out (by omega)])
      go_wp2
      go_ret
      exact ⟨ret_int7 HZ2.out.symm, rfl⟩

/-- what composePairs and composeFuns may cost -/
def both7 (a b : Nat) : Nat := a + b + a * b
theorem both_le (a b c d : Nat) : 1 + both7 a b + both7 c d ≤ (1 + a + c) * (1 + b + d) := by
  unfold both7
  have e : (1 + a + c) * (1 + b + d) = 1 + (a + b + a * b) + (c + d + c * d) + a * d + c * b := by
    simp only [Nat.add_mul, Nat.mul_add, Nat.one_mul, Nat.mul_one]; omega
  omega
theorem mul_le7 {a b c d : Nat} (h1 : a ≤ c) (h2 : b ≤ d) : a * b ≤ c * d := Nat.mul_le_mul h1 h2
theorem szC_lists (c : Co) (l : Int) : szC (listsC c l) ≤ 1 + szC c := by
  unfold listsC
  split
  · show szC co0 ≤ _
    have : szC co0 = 1 := by rw [szC_eq]; rfl
    omega
  · rw [szC_eq]
    show 1 + szCs [c] + szCs [] ≤ _
    simp only [szCs]; omega
/-- what the cars and the cdrs cost -/
theorem pairs_cost {c d : Co} (hc : Shape c) (hd : Shape d) (h2 : 2 ≤ c.h.pair) (h3 : 2 ≤ d.h.pair) :
    szC (carC c) * szC (carC d) ≤ both7 (szCs c.pairs) (szCs d.pairs) ∧ (¬ (c.h.pair = 3 ∧ d.h.pair = 3) → szC (carC c) * szC (carC d) + szC (cdrC c) * szC (cdrC d) ≤ both7 (szCs c.pairs) (szCs d.pairs)) := by
  have key : ∀ {c : Co}, Shape c → 2 ≤ c.h.pair → (c.h.pair = 3 ∧ szCs c.pairs = szC (carC c) ∧ szC (cdrC c) ≤ 1 + szC (carC c)) ∨ (c.h.pair = 2 ∧ szCs c.pairs = szC (carC c) + szC (cdrC c)) := by
    intro c hc h2
    obtain ⟨h3, _, h5, _⟩ := hc.own
    unfold wantC at h5
    by_cases e : c.h.pair = 2
    · right
      rw [if_pos e] at h5
      have hl := list2 (l := c.pairs) (by omega)
      refine ⟨e, ?_⟩
      unfold carC cdrC
      rw [if_neg (by omega), if_neg (by omega), if_pos e]
      generalize c.pairs.getD 0 co0 = x at hl ⊢
      generalize c.pairs.getD 1 co0 = y at hl ⊢
      rw [hl]; simp only [szCs]; omega
    · left
      have e3 : c.h.pair = 3 := by omega
      rw [if_neg e, if_pos e3] at h5
      have hl := list1 (l := c.pairs) (by omega)
      unfold carC cdrC
      rw [if_neg (by omega), if_neg (by omega), if_neg e]
      generalize c.pairs.getD 0 co0 = x at hl ⊢
      refine ⟨e3, by rw [hl]; simp only [szCs]; omega, szC_lists x _⟩
  unfold both7
  generalize hA : szC (carC c) = A at *
  generalize hB : szC (carC d) = B at *
  have kc := key hc h2
  have kd := key hd h3
  rw [hA] at kc
  rw [hB] at kd
  generalize szC (cdrC c) = A2 at *
  generalize szC (cdrC d) = B2 at *
  generalize szCs c.pairs = p at *
  generalize szCs d.pairs = q at *
  rcases kc with ⟨e1, e2, e3⟩ | ⟨e1, e2⟩ <;> rcases kd with ⟨f1, f2, f3⟩ | ⟨f1, f2⟩
  · subst e2 f2
    exact ⟨by omega, fun h => absurd ⟨e1, f1⟩ h⟩
  · subst e2 f2
    have hm : A2 * B2 ≤ (1 + p) * B2 := Nat.mul_le_mul_right _ e3
    rw [Nat.add_mul, Nat.one_mul] at hm
    rw [Nat.mul_add]
    exact ⟨by omega, fun _ => by omega⟩
  · subst e2 f2
    have hm : A2 * B2 ≤ A2 * (1 + q) := Nat.mul_le_mul_left _ f3
    rw [Nat.mul_add, Nat.mul_one] at hm
    rw [Nat.add_mul]
    exact ⟨by omega, fun _ => by omega⟩
  · subst e2 f2
    rw [Nat.add_mul, Nat.mul_add, Nat.mul_add]
    exact ⟨by omega, fun _ => by omega⟩
theorem funs_cost : ∀ (l m : List Co) (k : Nat), k ≤ l.length → k ≤ m.length → ((List.range k).map fun i => szC (l.getD i co0) * szC (m.getD i co0)).sum ≤ szCs (l.take k) * szCs (m.take k)
  | l, m, 0, _, _ => by simp
  | l, m, k + 1, h1, h2 => by
    have ih := funs_cost l m k (by omega) (by omega)
    rw [List.range_succ, List.map_append, List.sum_append, szCs_snoc l k (by omega), szCs_snoc m k (by omega), Nat.add_mul, Nat.mul_add, Nat.mul_add]
    simp only [List.map_cons, List.map_nil, List.sum_cons, List.sum_nil, Nat.add_zero]
    omega
end Go.Proofs.YtlalnkabfigodaaDoor
namespace Go.Proofs.YtlalnkabfigodaaDoor
open Go.RowKit

/-- what is said of compose -/
def CompOK (M n : Nat) : Prop := ∀ (c d : Co) (vc vd : Value) (w : World) (cw k e : Nat), okC c → okC d → htC c + htC d ≤ n → k + szC c * szC d ≤ M → e + n ≤ 131000 → TzW w → WalkC M cw k w → CoVN (· = cw) w vc c → CoVN (· = cw) w vd d →
    Calls Tryd.prog 63 #[.pointer (some ⟨cw, 0, none⟩), vc, vd, .int .i64 e] w (WPost M cw k (szC c * szC d) (compF n c d) w)
/-- what composePairs and composeFuns hand back -/
def PrPost (M cw k cost : Nat) (P PL : Int) (ps : List Co) (w : World) (e : Ending) (w' : World) : Prop := (∃ v, e = .returned (.tuple #[.int .i64 P, .int .i64 PL, v]) ∧ CoS w' (Lc (Old w.heap.size) w') v ps) ∧ Stay (· = cw) w w' ∧ ∃ k', k' ≤ k + cost ∧ WalkC M cw k' w'
def compP (n : Nat) (c d : Co) : Int × Int × List Co := if c.h.pair = 1 ∨ d.h.pair = 0 then (c.h.pair, c.h.pl, c.pairs) else if d.h.pair = 1 ∨ c.h.pair = 0 then (d.h.pair, d.h.pl, d.pairs) else
  if c.h.pair = 3 ∧ d.h.pair = 3 then (3, eithC c.h.pl d.h.pl, [compF n (carC c) (carC d)]) else (2, 0, [compF n (carC c) (carC d), compF n (cdrC c) (cdrC d)])
theorem ok_car {c : Co} (h : okC c) (h2 : 2 ≤ c.h.pair) : okC (carC c) := by
  unfold carC
  rw [if_neg (by omega)]
  exact h.pair (getC_mem (by have := (plen1 h.shape h2).1; omega))
theorem ok_lists {c : Co} (h : okC c) {l : Int} (hl : rng l) : okC (listsC c l) := by
  unfold listsC
  split
  · exact okC.mk (by decide) (by simp [co0, Co.pairs]) (by simp [co0, Co.funs])
  · rename_i hn
    refine okC.mk ?_ (fun x hx => ?_) (fun x hx => by cases hx)
    · refine decide_eq_true ⟨hl, hl, hl, hl, (by decide : rng 0), hl, (by decide : (0 : Int) ≤ 3 ∧ (3 : Int) ≤ 3), ?_, hl, hl, rfl, fun h => absurd (show (3 : Int) = 1 from h) (by decide), fun h => absurd (show (3 : Int) = 0 ∨ (3 : Int) = 2 from h) (by decide), fun h => ?_, fun _ => rfl, fun h => ?_, ?_⟩
      · show (0 : Int) ≤ (if l ≠ 0 then 1 else 0) ∧ (if l ≠ 0 then 1 else 0 : Int) ≤ 3
        split <;> omega
      · have h1 : allC [c] = true := h.2.1
        have h2 : passC c = true := by simpa [allC] using h1
        exact hn ⟨h2, h.2.2⟩
      · have h1 : (if l ≠ 0 then 1 else 0 : Int) = 2 := h
        split at h1 <;> omega
      · show (if l ≠ 0 then 1 else 0 : Int) = 1 ↔ l ≠ 0
        split <;> simp_all
    · have hx2 : x ∈ [c] := hx
      rw [List.mem_singleton.1 hx2]; exact h
theorem ok_cdr {c : Co} (h : okC c) (h2 : 2 ≤ c.h.pair) : okC (cdrC c) := by
  unfold cdrC
  rw [if_neg (by omega)]
  have hp := plen1 h.shape h2
  by_cases h3 : c.h.pair = 2
  · rw [if_pos h3]; exact h.pair (getC_mem (by have := hp.2 h3; omega))
  · rw [if_neg h3]
    refine ok_lists (h.pair (getC_mem (by omega))) ?_
    have hh := h.head
    unfold headC at hh
    rw [decide_eq_true_eq] at hh
    exact hh.2.2.2.2.2.2.2.2.1
theorem CoS.two7 {N : Nat → Prop} {w : World} {b : Nat} {T : TypeId} {r s : RawC} {x y : Co} (h : w.heap[b]? = some (.cells #[.int .i64 r.h.f0, .int .i64 r.h.f1, .int .i64 r.h.f2, .int .i64 r.h.f3, .int .i64 r.h.f4, .int .i64 r.h.f5, .int .i64 r.h.pair, .int .i64 r.h.pl, r.pv, .int .i64 r.h.fn, .int .i64 r.h.fl, r.fv, .int .i64 s.h.f0, .int .i64 s.h.f1, .int .i64 s.h.f2, .int .i64 s.h.f3, .int .i64 s.h.f4, .int .i64 s.h.f5, .int .i64 s.h.pair, .int .i64 s.h.pl, s.pv, .int .i64 s.h.fn, .int .i64 s.h.fl, s.fv] T (0, 0))) (hN : ¬ N b) (hr : RawCo w (Lc N w) r x) (hs : RawCo w (Lc N w) s y) : CoS w (Lc N w) (.slice (some ⟨b, 0, none⟩) 2 2) [x, y] := by
  refine CoS.mk (l := [x, y]) (rs := [r, s]) ⟨(Array.getElem?_eq_some_iff.1 h).1, hN⟩ (by unfold maxLen; simp) (fun j hj i hi => ?_) ⟨rfl, fun j hj => ?_⟩ (Nat.le_refl _)
  · obtain rfl | rfl : j = 0 ∨ j = 1 := by simp at hj; omega
    · rw [Lib.cell_of_heap h]
      simp only [Nat.zero_mul, Nat.zero_add, List.getElem?_toArray]
      show _ = (coCells r)[i]?
      obtain rfl | rfl | rfl | rfl | rfl | rfl | rfl | rfl | rfl | rfl | rfl | rfl : i = 0 ∨ i = 1 ∨ i = 2 ∨ i = 3 ∨ i = 4 ∨ i = 5 ∨ i = 6 ∨ i = 7 ∨ i = 8 ∨ i = 9 ∨ i = 10 ∨ i = 11 := by omega
      all_goals rfl
    · rw [Lib.cell_of_heap h]
      simp only [Nat.one_mul, Nat.zero_add, List.getElem?_toArray]
      show _ = (coCells s)[i]?
      obtain rfl | rfl | rfl | rfl | rfl | rfl | rfl | rfl | rfl | rfl | rfl | rfl : i = 0 ∨ i = 1 ∨ i = 2 ∨ i = 3 ∨ i = 4 ∨ i = 5 ∨ i = 6 ∨ i = 7 ∨ i = 8 ∨ i = 9 ∨ i = 10 ∨ i = 11 := by omega
      all_goals rfl
  · obtain rfl | rfl : j = 0 ∨ j = 1 := by simp at hj; omega
    · exact hr
    · exact hs
theorem CoVN.two7 {N : Nat → Prop} {w w' : World} {v : Value} {c : Co} (h : CoVN N w v c) (hs : Stay N w w') : CoVN N w' v c := h.stay hs

set_option maxRecDepth 100000 in
set_option maxHeartbeats 32000000 in
theorem cpairs_p (M n : Nat) (hM : M ≤ 2147483647) (ih : CompOK M n) (c d : Co) (vc vd : Value) (w : World) (cw k e : Nat) (oc : okC c) (od : okC d) (hht : htC c + htC d ≤ n + 1) (hk : k + both7 (szCs c.pairs) (szCs d.pairs) ≤ M) (he : e + n + 1 ≤ 131000) (hT : TzW w) (hw : WalkC M cw k w) (hc : CoVN (· = cw) w vc c) (hd : CoVN (· = cw) w vd d) :
    Calls Tryd.prog 88 #[.pointer (some ⟨cw, 0, none⟩), vc, vd, .int .i64 e] w (PrPost M cw k (both7 (szCs c.pairs) (szCs d.pairs)) (compP n c d).1 (compP n c d).2.1 (compP n c d).2.2 w) := by
  have sc := oc.shape
  have sd := od.shape
  have hcw := hw.lt
  have hne := hT.walk hw
  have hhc := htC_eq c
  have hhd := htC_eq d
  have hcpc : ∀ (pa : Option Addr) (pc : Nat) (w1 : World), WalkC M cw k w1 → CoS w1 (Lc (· = cw) w1) (.slice pa c.pairs.length pc) c.pairs → Calls Tryd.prog 93 #[.pointer (some ⟨cw, 0, none⟩), .slice pa c.pairs.length pc, .int .i64 e] w1 fun e w' => (∃ v, e = .returned v ∧ CoS w' (Lc (Old w1.heap.size) w') v c.pairs) ∧ Stay (· = cw) w1 w' ∧ ∃ k', k' ≤ k + both7 (szCs c.pairs) (szCs d.pairs) ∧ WalkC M cw k' w' := fun pa pc w1 h1 h2 => by
    have hl : szCs c.pairs ≤ both7 (szCs c.pairs) (szCs d.pairs) := by unfold both7; omega
    refine (copies_of M _ (copied_any M hM _) c.pairs pa pc w1 cw k e (Nat.le_refl _) (by omega) (by have := htC_pos d; omega) (by have := sc.thin.len; omega) (fun x hx => sc.thin.pair hx) h1 h2).mono ?_
    rintro e w2 ⟨h3, h4, k', h5, h6⟩
    exact ⟨h3, h4, k', by omega, h6⟩
  have hcpd : ∀ (pa : Option Addr) (pc : Nat) (w1 : World), WalkC M cw k w1 → CoS w1 (Lc (· = cw) w1) (.slice pa d.pairs.length pc) d.pairs → Calls Tryd.prog 93 #[.pointer (some ⟨cw, 0, none⟩), .slice pa d.pairs.length pc, .int .i64 e] w1 fun e w' => (∃ v, e = .returned v ∧ CoS w' (Lc (Old w1.heap.size) w') v d.pairs) ∧ Stay (· = cw) w1 w' ∧ ∃ k', k' ≤ k + both7 (szCs c.pairs) (szCs d.pairs) ∧ WalkC M cw k' w' := fun pa pc w1 h1 h2 => by
    have hl : szCs d.pairs ≤ both7 (szCs c.pairs) (szCs d.pairs) := by unfold both7; omega
    refine (copies_of M _ (copied_any M hM _) d.pairs pa pc w1 cw k e (Nat.le_refl _) (by omega) (by have := htC_pos c; omega) (by have := sd.thin.len; omega) (fun x hx => sd.thin.pair hx) h1 h2).mono ?_
    rintro e w2 ⟨h3, h4, k', h5, h6⟩
    exact ⟨h3, h4, k', by omega, h6⟩
  have hcar := fun (w1 : World) (h1 : Stay (· = cw) w w1) => carof_p (· = cw) c vc w1 (fun b h => by rw [h]; exact Nat.lt_of_lt_of_le hcw h1.size) sc (hc.stay h1)
  have hdar := fun (w1 : World) (h1 : Stay (· = cw) w w1) => carof_p (· = cw) d vd w1 (fun b h => by rw [h]; exact Nat.lt_of_lt_of_le hcw h1.size) sd (hd.stay h1)
  have hcdr := fun (w1 : World) (h1 : Stay (· = cw) w w1) => cdrof_p (· = cw) c vc w1 (fun b h => by rw [h]; exact Nat.lt_of_lt_of_le hcw h1.size) sc (hT.stay h1 (Ne.symm hne)) (hc.stay h1)
  have hddr := fun (w1 : World) (h1 : Stay (· = cw) w w1) => cdrof_p (· = cw) d vd w1 (fun b h => by rw [h]; exact Nat.lt_of_lt_of_le hcw h1.size) sd (hT.stay h1 (Ne.symm hne)) (hd.stay h1)
  obtain ⟨cost, hcost⟩ : ∃ x, x = both7 (szCs c.pairs) (szCs d.pairs) := ⟨_, rfl⟩
  have hpc := fun h2 h3 => pairs_cost sc sd h2 h3
  rw [← hcost] at hk hcpc hcpd hpc ⊢
  have hca : 2 ≤ c.h.pair → 2 ≤ d.h.pair → ∀ (w1 : World) (u v : Value), Stay (· = cw) w w1 → WalkC M cw k w1 → CoVN (· = cw) w1 u (carC c) → CoVN (· = cw) w1 v (carC d) → Calls Tryd.prog 63 #[.pointer (some ⟨cw, 0, none⟩), u, v, .int .i64 ((e : Int) + 1)] w1 (WPost M cw k (szC (carC c) * szC (carC d)) (compF n (carC c) (carC d)) w1) := fun h2 h3 w1 u v h4 h5 h6 h7 => by
    have a1 := shape_car sc h2
    have a2 := shape_car sd h3
    have a3 := (hpc h2 h3).1
    exact ih (carC c) (carC d) u v w1 cw k (e + 1) (ok_car oc h2) (ok_car od h3) (by omega) (by omega) (by omega) (hT.stay h4 (Ne.symm hne)) h5 h6 h7
  have hcb : 2 ≤ c.h.pair → 2 ≤ d.h.pair → ¬ (c.h.pair = 3 ∧ d.h.pair = 3) → ∀ (w1 : World) (u v : Value) (k1 : Nat), k1 ≤ k + szC (carC c) * szC (carC d) → Stay (· = cw) w w1 → WalkC M cw k1 w1 → CoVN (· = cw) w1 u (cdrC c) → CoVN (· = cw) w1 v (cdrC d) → Calls Tryd.prog 63 #[.pointer (some ⟨cw, 0, none⟩), u, v, .int .i64 ((e : Int) + 1)] w1 fun e w' => (∃ v, e = .returned v ∧ CoVN (Old w1.heap.size) w' v (compF n (cdrC c) (cdrC d))) ∧ Stay (· = cw) w1 w' ∧ ∃ k', k' ≤ k + cost ∧ WalkC M cw k' w' := fun h2 h3 hn w1 u v k1 hk1 h4 h5 h6 h7 => by
    have a1 := shape_cdr sc h2
    have a2 := shape_cdr sd h3
    have a3 := (hpc h2 h3).2 hn
    have h8 := sc.own.1
    have h9 := sd.own.1
    have a4 : htC (cdrC c) + htC (cdrC d) ≤ n := by
      by_cases e2 : c.h.pair = 2
      · have := a1.2.2 e2; have := a2.2.1; omega
      · have := a2.2.2 (by omega); have := a1.2.1; omega
    refine (ih (cdrC c) (cdrC d) u v w1 cw k1 (e + 1) (ok_cdr oc h2) (ok_cdr od h3) a4 (by omega) (by omega) (hT.stay h4 (Ne.symm hne)) h5 h6 h7).mono ?_
    rintro e w2 ⟨h3, h4, k', h5, h6⟩
    exact ⟨h3, h4, k', by omega, h6⟩
  have hlc := sc.own.1
  have hld := sd.own.1
  have hca2 : 2 ≤ c.h.pair → 2 ≤ d.h.pair → szC (carC c) * szC (carC d) ≤ cost := fun h2 h3 => (hpc h2 h3).1
  obtain ⟨P, hP⟩ : ∃ P, P = compP n c d := ⟨_, rfl⟩
  rw [← hP]
  unfold compP at hP
  obtain ⟨pa, pc, fa, fc, rfl, hp, hf⟩ := hc.form
  obtain ⟨np, hnp⟩ : ∃ n, n = c.pairs.length := ⟨_, rfl⟩
  obtain ⟨nf, hnf⟩ : ∃ n, n = c.funs.length := ⟨_, rfl⟩
  obtain ⟨qa, qc, ga, gc, rfl, hq, hg⟩ := hd.form
  obtain ⟨mp, hmp⟩ : ∃ n, n = d.pairs.length := ⟨_, rfl⟩
  obtain ⟨mf, hmf⟩ : ∃ n, n = d.funs.length := ⟨_, rfl⟩
  have hcpc := hcpc pa pc
  have hcpd := hcpd qa qc
  rw [← hnp] at hp hcpc
  rw [← hmp] at hq hcpd
  rw [← hnp, ← hnf] at hcar hcdr ⊢
  rw [← hmp, ← hmf] at hdar hddr ⊢
  obtain ⟨W, hW⟩ : ∃ W, W = (w.alloc (.cells #[.int .i64 c.h.f0, .int .i64 c.h.f1, .int .i64 c.h.f2, .int .i64 c.h.f3, .int .i64 c.h.f4, .int .i64 c.h.f5, .int .i64 c.h.pair, .int .i64 c.h.pl, .slice pa np pc, .int .i64 c.h.fn, .int .i64 c.h.fl, .slice fa nf fc] 25)).alloc (.cells #[.int .i64 d.h.f0, .int .i64 d.h.f1, .int .i64 d.h.f2, .int .i64 d.h.f3, .int .i64 d.h.f4, .int .i64 d.h.f5, .int .i64 d.h.pair, .int .i64 d.h.pl, .slice qa mp qc, .int .i64 d.h.fn, .int .i64 d.h.fl, .slice ga mf gc] 25) := ⟨_, rfl⟩
  have hb : Below w.heap.size w W := by rw [hW]; exact ((Below.refl _ _).alloc (Nat.le_refl _) _).alloc (by simp) _
  have HXC := Lib.hid (show CBox W w.heap.size 25 ⟨c.h, .slice pa np pc, .slice fa nf fc⟩ by rw [hW]; exact (CBox.made w 25 ⟨c.h, .slice pa np pc, .slice fa nf fc⟩).keep ((Below.refl _ _).alloc (Nat.le_refl _) _))
  have HXD := Lib.hid (show CBox W (w.heap.size + 1) 25 ⟨d.h, .slice qa mp qc, .slice ga mf gc⟩ by rw [hW]; have := CBox.made (w.alloc (.cells #[.int .i64 c.h.f0, .int .i64 c.h.f1, .int .i64 c.h.f2, .int .i64 c.h.f3, .int .i64 c.h.f4, .int .i64 c.h.f5, .int .i64 c.h.pair, .int .i64 c.h.pl, .slice pa np pc, .int .i64 c.h.fn, .int .i64 c.h.fl, .slice fa nf fc] 25)) 25 ⟨d.h, .slice qa mp qc, .slice ga mf gc⟩; simp only [alloc_hs7] at this; exact this)
  have HSZ := Lib.hid (show W.heap.size = w.heap.size + 2 by rw [hW]; simp)
  have HB := Lib.hid hb
  have HS := Lib.hid (Stay.of (N := (· = cw)) hb)
  have HWK := Lib.hid (hw.keep hb)
  have HCW := Lib.hid hcw
  have HCP := Lib.hid (CoSN.below hp hb)
  have HDP := Lib.hid (CoSN.below hq hb)
  have HCPC := Lib.hid hcpc
  have HCPD := Lib.hid hcpd
  have HCAR := Lib.hid hcar
  have HDAR := Lib.hid hdar
  have HCDR := Lib.hid hcdr
  have HDDR := Lib.hid hddr
  have HCA := Lib.hid hca
  have HCA2 := Lib.hid hca2
  have HCB := Lib.hid hcb
  have HLC := Lib.hid hlc
  have HLD := Lib.hid hld
  have HP := Lib.hid hP
  have HW := Lib.hid hW
  have he2 : (e : Int) ≤ 131000 := by omega
  have hwr : IntKind.i64.wrap ((e : Int) + 1) = (e : Int) + 1 := by rw [IntKind.wrap_i64]; omega
  clear hb hcpc hcpd hcar hdar hcdr hddr hca hca2 hcb hlc hld hP hW hcw hne hhc hhd hpc hcost hk he hT hw hc hd hht sc sd oc od hM ih hp hf hq hg hnp hnf hmp hmf
  have x0 : W.cell? ⟨w.heap.size, 0, none⟩ = some (.int .i64 c.h.f0) := HXC.out.c0
  have x1 : W.cell? ⟨w.heap.size, 1, none⟩ = some (.int .i64 c.h.f1) := HXC.out.c1
  have x2 : W.cell? ⟨w.heap.size, 2, none⟩ = some (.int .i64 c.h.f2) := HXC.out.c2
  have x3 : W.cell? ⟨w.heap.size, 3, none⟩ = some (.int .i64 c.h.f3) := HXC.out.c3
  have x4 : W.cell? ⟨w.heap.size, 4, none⟩ = some (.int .i64 c.h.f4) := HXC.out.c4
  have x5 : W.cell? ⟨w.heap.size, 5, none⟩ = some (.int .i64 c.h.f5) := HXC.out.c5
  have x6 : W.cell? ⟨w.heap.size, 6, none⟩ = some (.int .i64 c.h.pair) := HXC.out.c6
  have x7 : W.cell? ⟨w.heap.size, 7, none⟩ = some (.int .i64 c.h.pl) := HXC.out.c7
  have x8 : W.cell? ⟨w.heap.size, 8, none⟩ = some (.slice pa np pc) := HXC.out.c8
  have x9 : W.cell? ⟨w.heap.size, 9, none⟩ = some (.int .i64 c.h.fn) := HXC.out.c9
  have x10 : W.cell? ⟨w.heap.size, 10, none⟩ = some (.int .i64 c.h.fl) := HXC.out.c10
  have x11 : W.cell? ⟨w.heap.size, 11, none⟩ = some (.slice fa nf fc) := HXC.out.c11
  have y0 : W.cell? ⟨(w.heap.size + 1), 0, none⟩ = some (.int .i64 d.h.f0) := HXD.out.c0
  have y1 : W.cell? ⟨(w.heap.size + 1), 1, none⟩ = some (.int .i64 d.h.f1) := HXD.out.c1
  have y2 : W.cell? ⟨(w.heap.size + 1), 2, none⟩ = some (.int .i64 d.h.f2) := HXD.out.c2
  have y3 : W.cell? ⟨(w.heap.size + 1), 3, none⟩ = some (.int .i64 d.h.f3) := HXD.out.c3
  have y4 : W.cell? ⟨(w.heap.size + 1), 4, none⟩ = some (.int .i64 d.h.f4) := HXD.out.c4
  have y5 : W.cell? ⟨(w.heap.size + 1), 5, none⟩ = some (.int .i64 d.h.f5) := HXD.out.c5
  have y6 : W.cell? ⟨(w.heap.size + 1), 6, none⟩ = some (.int .i64 d.h.pair) := HXD.out.c6
  have y7 : W.cell? ⟨(w.heap.size + 1), 7, none⟩ = some (.int .i64 d.h.pl) := HXD.out.c7
  have y8 : W.cell? ⟨(w.heap.size + 1), 8, none⟩ = some (.slice qa mp qc) := HXD.out.c8
  have y9 : W.cell? ⟨(w.heap.size + 1), 9, none⟩ = some (.int .i64 d.h.fn) := HXD.out.c9
  have y10 : W.cell? ⟨(w.heap.size + 1), 10, none⟩ = some (.int .i64 d.h.fl) := HXD.out.c10
  have y11 : W.cell? ⟨(w.heap.size + 1), 11, none⟩ = some (.slice ga mf gc) := HXD.out.c11
  go_enter Tryd.func88, Tryd.ntmps88
  go_upto_region 1 with fail
  rw [← HW.out]
  clear HW
  by_cases a1 : c.h.pair = 1
  · have b1 : (c.h.pair == 1) = true := by rw [a1]; rfl
    have HCOND := Lib.hid (show c.h.pair = 1 ∨ d.h.pair = 0 from .inl a1)
    clear a1
    have HPX := Lib.hid (show P = (c.h.pair, c.h.pl, c.pairs) by rw [HP.out, if_pos HCOND.out])
    go_upto_region 2 with fail
    (try dsimp only [List.append])
    refine wp_region_noPanic ?_
    refine wp_region_held_drew (S := (fun w' => w'.cell? ⟨w.heap.size, 6, none⟩ = some (.int .i64 c.h.pair) ∧ w'.cell? ⟨w.heap.size, 7, none⟩ = some (.int .i64 c.h.pl) ∧ w'.cell? ⟨w.heap.size, 8, none⟩ = some (.slice pa np pc))) (by kernel_rfl) (by (try dsimp only); exact ⟨(HXC.out.keep (Below.refl W.heap.size W).drew).c6, (HXC.out.keep (Below.refl W.heap.size W).drew).c7, (HXC.out.keep (Below.refl W.heap.size W).drew).c8⟩) (fun hHeld => ?_)
    have hdr : Below W.heap.size W W.drew := (Below.refl _ _).drew
    have HXE := Lib.hid (HXC.out.keep hdr)
    have HSE := Lib.hid (HS.out.then hdr)
    have HWE := Lib.hid (HWK.out.keep hdr)
    have HPE := Lib.hid (CoSN.below HCP.out hdr)
    have HDZ := Lib.hid hdr.size
    clear hdr
    generalize W.drew = wd at hHeld HXE HSE HWE HPE HDZ ⊢
    refine' tk_any 0 21 (v := _) ?hi92066 ?hd92066 (by kernel_rfl) (by kernel_rfl) (by kernel_rfl) (fun _ _ _ h => h) ?hy92066 hHeld ?hr92066
    case hi92066 => (simp only [List.getElem?_toArray, List.getElem?_cons_zero]; rfl)
    case hd92066 => rfl
    case hy92066 =>
      refine' Or.inl ⟨?hw92066, ?hx92066⟩
      case hw92066 => rfl
      case hx92066 => (intro w hSw; (try dsimp only at hSw); go_simp; (try with_reducible rfl))
    (try simp only [Act.put, List.setIfInBounds_toArray, List.set_cons_zero, List.set_cons_succ])
    refine' tk_any 1 22 (v := _) ?hi92067 ?hd92067 (by kernel_rfl) (by kernel_rfl) (by kernel_rfl) (fun _ _ _ h => h) ?hy92067 hHeld ?hr92067
    case hi92067 => (simp only [List.getElem?_toArray, List.getElem?_cons_succ, List.getElem?_cons_zero]; rfl)
    case hd92067 => rfl
    case hy92067 =>
      refine' Or.inl ⟨?hw92067, ?hx92067⟩
      case hw92067 => rfl
      case hx92067 => (intro w hSw; (try dsimp only at hSw); go_simp; (try with_reducible rfl))
    (try simp only [Act.put, List.setIfInBounds_toArray, List.set_cons_zero, List.set_cons_succ])
    refine' tk_any 2 23 (v := _) ?hi92068 ?hd92068 (by kernel_rfl) (by kernel_rfl) (by kernel_rfl) (fun _ _ _ h => h) ?hy92068 hHeld ?hr92068
    case hi92068 => (simp only [List.getElem?_toArray, List.getElem?_cons_succ, List.getElem?_cons_zero]; rfl)
    case hd92068 => rfl
    case hy92068 =>
      refine' Or.inl ⟨?hw92068, ?hx92068⟩
      case hw92068 => rfl
      case hx92068 => (intro w hSw; (try dsimp only at hSw); go_simp; (try with_reducible rfl))
    (try simp only [Act.put, List.setIfInBounds_toArray, List.set_cons_zero, List.set_cons_succ])
    refine' tk_any 3 24 (v := _) ?hi92069 ?hd92069 (by kernel_rfl) (by kernel_rfl) (by kernel_rfl) (fun _ _ _ h => h) ?hy92069 hHeld ?hr92069
    case hi92069 => (simp only [List.getElem?_toArray, List.getElem?_cons_succ, List.getElem?_cons_zero]; rfl)
    case hd92069 => rfl
    case hy92069 =>
      refine' Or.inl ⟨?hw92069, ?hx92069⟩
      case hw92069 => rfl
      case hx92069 => (intro w hSw; (try dsimp only at hSw); go_simp; (try with_reducible rfl))
    (try simp only [Act.put, List.setIfInBounds_toArray, List.set_cons_zero, List.set_cons_succ])
    refine' tk_any 4 25 (v := _) ?hi92070 ?hd92070 (by kernel_rfl) (by kernel_rfl) (by kernel_rfl) (fun _ _ _ h => h) ?hy92070 hHeld ?hr92070
    case hi92070 => (simp only [List.getElem?_toArray, List.getElem?_cons_succ, List.getElem?_cons_zero]; rfl)
    case hd92070 => rfl
    case hy92070 =>
      refine' Or.inl ⟨?hw92070, ?hx92070⟩
      case hw92070 => rfl
      case hx92070 => (intro w hSw; (try dsimp only at hSw); go_simp; (try with_reducible rfl))
    (try simp only [Act.put, List.setIfInBounds_toArray, List.set_cons_zero, List.set_cons_succ])
    refine' tk_any 5 26 (v := _) ?hi92071 ?hd92071 (by kernel_rfl) (by kernel_rfl) (by kernel_rfl) (fun _ _ _ h => h) ?hy92071 hHeld ?hr92071
    case hi92071 => (simp only [List.getElem?_toArray, List.getElem?_cons_succ, List.getElem?_cons_zero]; rfl)
    case hd92071 => rfl
    case hy92071 =>
      refine' Or.inl ⟨?hw92071, ?hx92071⟩
      case hw92071 => rfl
      case hx92071 => (intro w hSw; (try dsimp only at hSw); go_simp; (try with_reducible rfl))
    (try simp only [Act.put, List.setIfInBounds_toArray, List.set_cons_zero, List.set_cons_succ])
    refine' tk_any 6 27 (v := _) ?hi92072 ?hd92072 (by kernel_rfl) (by kernel_rfl) (by kernel_rfl) (fun _ _ _ h => h) ?hy92072 hHeld ?hr92072
    case hi92072 => (simp only [List.getElem?_toArray, List.getElem?_cons_succ, List.getElem?_cons_zero]; rfl)
    case hd92072 => rfl
    case hy92072 =>
      refine' Or.inl ⟨?hw92072, ?hx92072⟩
      case hw92072 => rfl
      case hx92072 => (intro w hSw; (try dsimp only at hSw); go_simp; (try with_reducible rfl))
    (try simp only [Act.put, List.setIfInBounds_toArray, List.set_cons_zero, List.set_cons_succ])
    refine' tk_any 7 28 (v := _) ?hi92073 ?hd92073 (by kernel_rfl) (by kernel_rfl) (by kernel_rfl) (fun _ _ _ h => h) ?hy92073 hHeld ?hr92073
    case hi92073 => (simp only [List.getElem?_toArray, List.getElem?_cons_succ, List.getElem?_cons_zero]; rfl)
    case hd92073 => rfl
    case hy92073 =>
      refine' Or.inl ⟨?hw92073, ?hx92073⟩
      case hw92073 => rfl
      case hx92073 => (intro w hSw; (try dsimp only at hSw); go_simp; (try with_reducible rfl))
    (try simp only [Act.put, List.setIfInBounds_toArray, List.set_cons_zero, List.set_cons_succ])
    refine' tk_call 8 ?hi92074 (by kernel_rfl) ?hr92074
    case hi92074 => (simp only [List.getElem?_toArray, List.getElem?_cons_succ, List.getElem?_cons_zero]; rfl)
    intro K hK
    go_simp
    go_at_call 93
    refine (HCPC.out wd HWE.out HPE.out).mono ?_
    rintro e2 w2 ⟨⟨v, rfl, hv⟩, hs2, hk2⟩
    have HV := Lib.hid hv
    have HS2 := Lib.hid (HSE.out.trans hs2)
    have HK2 := Lib.hid hk2
    have HX2 := Lib.hid (HXE.out.stay hs2 (by have := HCW.out; omega))
    clear hv hs2 hk2
    go_wp2_with fail
    clear hHeld
    refine hK.out _ _ (by (try dsimp only); exact ⟨HX2.out.c6, HX2.out.c7, HX2.out.c8⟩) (fun hHeld => ?_)
    clear hK K
    (try simp only [Act.put, List.setIfInBounds_toArray, List.set_cons_zero, List.set_cons_succ])
    refine' tk_any 9 8 (v := _) ?hi92075 ?hd92075 (by kernel_rfl) (by kernel_rfl) (by kernel_rfl) (fun _ _ _ h => h) ?hy92075 hHeld ?hr92075
    case hi92075 => (simp only [List.getElem?_toArray, List.getElem?_cons_succ, List.getElem?_cons_zero]; rfl)
    case hd92075 => rfl
    case hy92075 =>
      refine' Or.inl ⟨?hw92075, ?hx92075⟩
      case hw92075 => rfl
      case hx92075 => (intro w hSw; (try dsimp only at hSw); go_simp; (try with_reducible rfl))
    (try simp only [Act.put, List.setIfInBounds_toArray, List.set_cons_zero, List.set_cons_succ])
    refine' tk_any 10 9 (v := _) ?hi92076 ?hd92076 (by kernel_rfl) (by kernel_rfl) (by kernel_rfl) (fun _ _ _ h => h) ?hy92076 hHeld ?hr92076
    case hi92076 => (simp only [List.getElem?_toArray, List.getElem?_cons_succ, List.getElem?_cons_zero]; rfl)
    case hd92076 => rfl
    case hy92076 =>
      refine' Or.inl ⟨?hw92076, ?hx92076⟩
      case hw92076 => rfl
      case hx92076 => (intro w hSw; (try dsimp only at hSw); go_simp; (try with_reducible rfl))
    (try simp only [Act.put, List.setIfInBounds_toArray, List.set_cons_zero, List.set_cons_succ])
    refine' tk_any 11 10 (v := _) ?hi92077 ?hd92077 (by kernel_rfl) (by kernel_rfl) (by kernel_rfl) (fun _ _ _ h => h) ?hy92077 hHeld ?hr92077
    case hi92077 => (simp only [List.getElem?_toArray, List.getElem?_cons_succ, List.getElem?_cons_zero]; rfl)
    case hd92077 => rfl
    case hy92077 =>
      refine' Or.inl ⟨?hw92077, ?hx92077⟩
      case hw92077 => rfl
      case hx92077 => (intro w hSw; (try dsimp only at hSw); go_simp; (try with_reducible rfl))
    (try simp only [Act.put, List.setIfInBounds_toArray, List.set_cons_zero, List.set_cons_succ])
    refine wpAnyH_done (by kernel_rfl) ?_ _
    refine NoPanic.normal ?_
    go_wp2
    refine bodyPost_ret (v := .tuple #[.int .i64 c.h.pair, .int .i64 c.h.pl, v]) ?_ ?_ ?_
    · simp [results, Tryd.results88, go_sem]
    · rfl
    · refine ⟨⟨v, ?_, ?_⟩, HS2.out, HK2.out⟩
      · rw [HPX.out]
      · rw [HPX.out]; exact CoSN.mono HV.out fun b _ h => Nat.lt_of_lt_of_le h (Nat.le_trans HB.out.size HDZ.out)
  have b1 : (c.h.pair == 1) = false := beq_false_of_ne a1
  by_cases a2 : d.h.pair = 0
  · have b2 : (d.h.pair == 0) = true := by rw [a2]; rfl
    have HCOND := Lib.hid (show c.h.pair = 1 ∨ d.h.pair = 0 from .inr a2)
    clear a1 a2
    have HPX := Lib.hid (show P = (c.h.pair, c.h.pl, c.pairs) by rw [HP.out, if_pos HCOND.out])
    go_upto_region 2 with fail
    (try dsimp only [List.append])
    refine wp_region_noPanic ?_
    refine wp_region_held_drew (S := (fun w' => w'.cell? ⟨w.heap.size, 6, none⟩ = some (.int .i64 c.h.pair) ∧ w'.cell? ⟨w.heap.size, 7, none⟩ = some (.int .i64 c.h.pl) ∧ w'.cell? ⟨w.heap.size, 8, none⟩ = some (.slice pa np pc))) (by kernel_rfl) (by (try dsimp only); exact ⟨(HXC.out.keep (Below.refl W.heap.size W).drew).c6, (HXC.out.keep (Below.refl W.heap.size W).drew).c7, (HXC.out.keep (Below.refl W.heap.size W).drew).c8⟩) (fun hHeld => ?_)
    have hdr : Below W.heap.size W W.drew := (Below.refl _ _).drew
    have HXE := Lib.hid (HXC.out.keep hdr)
    have HSE := Lib.hid (HS.out.then hdr)
    have HWE := Lib.hid (HWK.out.keep hdr)
    have HPE := Lib.hid (CoSN.below HCP.out hdr)
    have HDZ := Lib.hid hdr.size
    clear hdr
    generalize W.drew = wd at hHeld HXE HSE HWE HPE HDZ ⊢
    refine' tk_any 0 21 (v := _) ?hi92078 ?hd92078 (by kernel_rfl) (by kernel_rfl) (by kernel_rfl) (fun _ _ _ h => h) ?hy92078 hHeld ?hr92078
    case hi92078 => (simp only [List.getElem?_toArray, List.getElem?_cons_zero]; rfl)
    case hd92078 => rfl
    case hy92078 =>
      refine' Or.inl ⟨?hw92078, ?hx92078⟩
      case hw92078 => rfl
      case hx92078 => (intro w hSw; (try dsimp only at hSw); go_simp; (try with_reducible rfl))
    (try simp only [Act.put, List.setIfInBounds_toArray, List.set_cons_zero, List.set_cons_succ])
    refine' tk_any 1 22 (v := _) ?hi92079 ?hd92079 (by kernel_rfl) (by kernel_rfl) (by kernel_rfl) (fun _ _ _ h => h) ?hy92079 hHeld ?hr92079
    case hi92079 => (simp only [List.getElem?_toArray, List.getElem?_cons_succ, List.getElem?_cons_zero]; rfl)
    case hd92079 => rfl
    case hy92079 =>
      refine' Or.inl ⟨?hw92079, ?hx92079⟩
      case hw92079 => rfl
      case hx92079 => (intro w hSw; (try dsimp only at hSw); go_simp; (try with_reducible rfl))
    (try simp only [Act.put, List.setIfInBounds_toArray, List.set_cons_zero, List.set_cons_succ])
    refine' tk_any 2 23 (v := _) ?hi92080 ?hd92080 (by kernel_rfl) (by kernel_rfl) (by kernel_rfl) (fun _ _ _ h => h) ?hy92080 hHeld ?hr92080
    case hi92080 => (simp only [List.getElem?_toArray, List.getElem?_cons_succ, List.getElem?_cons_zero]; rfl)
    case hd92080 => rfl
    case hy92080 =>
      refine' Or.inl ⟨?hw92080, ?hx92080⟩
      case hw92080 => rfl
      case hx92080 => (intro w hSw; (try dsimp only at hSw); go_simp; (try with_reducible rfl))
    (try simp only [Act.put, List.setIfInBounds_toArray, List.set_cons_zero, List.set_cons_succ])
    refine' tk_any 3 24 (v := _) ?hi92081 ?hd92081 (by kernel_rfl) (by kernel_rfl) (by kernel_rfl) (fun _ _ _ h => h) ?hy92081 hHeld ?hr92081
    case hi92081 => (simp only [List.getElem?_toArray, List.getElem?_cons_succ, List.getElem?_cons_zero]; rfl)
    case hd92081 => rfl
    case hy92081 =>
      refine' Or.inl ⟨?hw92081, ?hx92081⟩
      case hw92081 => rfl
      case hx92081 => (intro w hSw; (try dsimp only at hSw); go_simp; (try with_reducible rfl))
    (try simp only [Act.put, List.setIfInBounds_toArray, List.set_cons_zero, List.set_cons_succ])
    refine' tk_any 4 25 (v := _) ?hi92082 ?hd92082 (by kernel_rfl) (by kernel_rfl) (by kernel_rfl) (fun _ _ _ h => h) ?hy92082 hHeld ?hr92082
    case hi92082 => (simp only [List.getElem?_toArray, List.getElem?_cons_succ, List.getElem?_cons_zero]; rfl)
    case hd92082 => rfl
    case hy92082 =>
      refine' Or.inl ⟨?hw92082, ?hx92082⟩
      case hw92082 => rfl
      case hx92082 => (intro w hSw; (try dsimp only at hSw); go_simp; (try with_reducible rfl))
    (try simp only [Act.put, List.setIfInBounds_toArray, List.set_cons_zero, List.set_cons_succ])
    refine' tk_any 5 26 (v := _) ?hi92083 ?hd92083 (by kernel_rfl) (by kernel_rfl) (by kernel_rfl) (fun _ _ _ h => h) ?hy92083 hHeld ?hr92083
    case hi92083 => (simp only [List.getElem?_toArray, List.getElem?_cons_succ, List.getElem?_cons_zero]; rfl)
    case hd92083 => rfl
    case hy92083 =>
      refine' Or.inl ⟨?hw92083, ?hx92083⟩
      case hw92083 => rfl
      case hx92083 => (intro w hSw; (try dsimp only at hSw); go_simp; (try with_reducible rfl))
    (try simp only [Act.put, List.setIfInBounds_toArray, List.set_cons_zero, List.set_cons_succ])
    refine' tk_any 6 27 (v := _) ?hi92084 ?hd92084 (by kernel_rfl) (by kernel_rfl) (by kernel_rfl) (fun _ _ _ h => h) ?hy92084 hHeld ?hr92084
    case hi92084 => (simp only [List.getElem?_toArray, List.getElem?_cons_succ, List.getElem?_cons_zero]; rfl)
    case hd92084 => rfl
    case hy92084 =>
      refine' Or.inl ⟨?hw92084, ?hx92084⟩
      case hw92084 => rfl
      case hx92084 => (intro w hSw; (try dsimp only at hSw); go_simp; (try with_reducible rfl))
    (try simp only [Act.put, List.setIfInBounds_toArray, List.set_cons_zero, List.set_cons_succ])
    refine' tk_any 7 28 (v := _) ?hi92085 ?hd92085 (by kernel_rfl) (by kernel_rfl) (by kernel_rfl) (fun _ _ _ h => h) ?hy92085 hHeld ?hr92085
    case hi92085 => (simp only [List.getElem?_toArray, List.getElem?_cons_succ, List.getElem?_cons_zero]; rfl)
    case hd92085 => rfl
    case hy92085 =>
      refine' Or.inl ⟨?hw92085, ?hx92085⟩
      case hw92085 => rfl
      case hx92085 => (intro w hSw; (try dsimp only at hSw); go_simp; (try with_reducible rfl))
    (try simp only [Act.put, List.setIfInBounds_toArray, List.set_cons_zero, List.set_cons_succ])
    refine' tk_call 8 ?hi92086 (by kernel_rfl) ?hr92086
    case hi92086 => (simp only [List.getElem?_toArray, List.getElem?_cons_succ, List.getElem?_cons_zero]; rfl)
    intro K hK
    go_simp
    go_at_call 93
    refine (HCPC.out wd HWE.out HPE.out).mono ?_
    rintro e2 w2 ⟨⟨v, rfl, hv⟩, hs2, hk2⟩
    have HV := Lib.hid hv
    have HS2 := Lib.hid (HSE.out.trans hs2)
    have HK2 := Lib.hid hk2
    have HX2 := Lib.hid (HXE.out.stay hs2 (by have := HCW.out; omega))
    clear hv hs2 hk2
    go_wp2_with fail
    clear hHeld
    refine hK.out _ _ (by (try dsimp only); exact ⟨HX2.out.c6, HX2.out.c7, HX2.out.c8⟩) (fun hHeld => ?_)
    clear hK K
    (try simp only [Act.put, List.setIfInBounds_toArray, List.set_cons_zero, List.set_cons_succ])
    refine' tk_any 9 8 (v := _) ?hi92087 ?hd92087 (by kernel_rfl) (by kernel_rfl) (by kernel_rfl) (fun _ _ _ h => h) ?hy92087 hHeld ?hr92087
    case hi92087 => (simp only [List.getElem?_toArray, List.getElem?_cons_succ, List.getElem?_cons_zero]; rfl)
    case hd92087 => rfl
    case hy92087 =>
      refine' Or.inl ⟨?hw92087, ?hx92087⟩
      case hw92087 => rfl
      case hx92087 => (intro w hSw; (try dsimp only at hSw); go_simp; (try with_reducible rfl))
    (try simp only [Act.put, List.setIfInBounds_toArray, List.set_cons_zero, List.set_cons_succ])
    refine' tk_any 10 9 (v := _) ?hi92088 ?hd92088 (by kernel_rfl) (by kernel_rfl) (by kernel_rfl) (fun _ _ _ h => h) ?hy92088 hHeld ?hr92088
    case hi92088 => (simp only [List.getElem?_toArray, List.getElem?_cons_succ, List.getElem?_cons_zero]; rfl)
    case hd92088 => rfl
    case hy92088 =>
      refine' Or.inl ⟨?hw92088, ?hx92088⟩
      case hw92088 => rfl
      case hx92088 => (intro w hSw; (try dsimp only at hSw); go_simp; (try with_reducible rfl))
    (try simp only [Act.put, List.setIfInBounds_toArray, List.set_cons_zero, List.set_cons_succ])
    refine' tk_any 11 10 (v := _) ?hi92089 ?hd92089 (by kernel_rfl) (by kernel_rfl) (by kernel_rfl) (fun _ _ _ h => h) ?hy92089 hHeld ?hr92089
    case hi92089 => (simp only [List.getElem?_toArray, List.getElem?_cons_succ, List.getElem?_cons_zero]; rfl)
    case hd92089 => rfl
    case hy92089 =>
      refine' Or.inl ⟨?hw92089, ?hx92089⟩
      case hw92089 => rfl
      case hx92089 => (intro w hSw; (try dsimp only at hSw); go_simp; (try with_reducible rfl))
    (try simp only [Act.put, List.setIfInBounds_toArray, List.set_cons_zero, List.set_cons_succ])
    refine wpAnyH_done (by kernel_rfl) ?_ _
    refine NoPanic.normal ?_
    go_wp2
    refine bodyPost_ret (v := .tuple #[.int .i64 c.h.pair, .int .i64 c.h.pl, v]) ?_ ?_ ?_
    · simp [results, Tryd.results88, go_sem]
    · rfl
    · refine ⟨⟨v, ?_, ?_⟩, HS2.out, HK2.out⟩
      · rw [HPX.out]
      · rw [HPX.out]; exact CoSN.mono HV.out fun b _ h => Nat.lt_of_lt_of_le h (Nat.le_trans HB.out.size HDZ.out)
  have b2 : (d.h.pair == 0) = false := beq_false_of_ne a2
  have HN1 := Lib.hid (show ¬ (c.h.pair = 1 ∨ d.h.pair = 0) from fun h => h.elim a1 a2)
  by_cases a3 : d.h.pair = 1
  · have b3 : (d.h.pair == 1) = true := by rw [a3]; rfl
    have HCOND := Lib.hid (show d.h.pair = 1 ∨ c.h.pair = 0 from .inl a3)
    clear a1 a2 a3
    have HPX := Lib.hid (show P = (d.h.pair, d.h.pl, d.pairs) by rw [HP.out, if_neg HN1.out, if_pos HCOND.out])
    go_upto_region 4 with fail
    (try dsimp only [List.append])
    refine wp_region_noPanic ?_
    refine wp_region_held_drew (S := (fun w' => w'.cell? ⟨(w.heap.size + 1), 6, none⟩ = some (.int .i64 d.h.pair) ∧ w'.cell? ⟨(w.heap.size + 1), 7, none⟩ = some (.int .i64 d.h.pl) ∧ w'.cell? ⟨(w.heap.size + 1), 8, none⟩ = some (.slice qa mp qc))) (by kernel_rfl) (by (try dsimp only); exact ⟨(HXD.out.keep (Below.refl W.heap.size W).drew).c6, (HXD.out.keep (Below.refl W.heap.size W).drew).c7, (HXD.out.keep (Below.refl W.heap.size W).drew).c8⟩) (fun hHeld => ?_)
    have hdr : Below W.heap.size W W.drew := (Below.refl _ _).drew
    have HXE := Lib.hid (HXD.out.keep hdr)
    have HSE := Lib.hid (HS.out.then hdr)
    have HWE := Lib.hid (HWK.out.keep hdr)
    have HPE := Lib.hid (CoSN.below HDP.out hdr)
    have HDZ := Lib.hid hdr.size
    clear hdr
    generalize W.drew = wd at hHeld HXE HSE HWE HPE HDZ ⊢
    refine' tk_any 0 39 (v := _) ?hi92090 ?hd92090 (by kernel_rfl) (by kernel_rfl) (by kernel_rfl) (fun _ _ _ h => h) ?hy92090 hHeld ?hr92090
    case hi92090 => (simp only [List.getElem?_toArray, List.getElem?_cons_zero]; rfl)
    case hd92090 => rfl
    case hy92090 =>
      refine' Or.inl ⟨?hw92090, ?hx92090⟩
      case hw92090 => rfl
      case hx92090 => (intro w hSw; (try dsimp only at hSw); go_simp; (try with_reducible rfl))
    (try simp only [Act.put, List.setIfInBounds_toArray, List.set_cons_zero, List.set_cons_succ])
    refine' tk_any 1 40 (v := _) ?hi92091 ?hd92091 (by kernel_rfl) (by kernel_rfl) (by kernel_rfl) (fun _ _ _ h => h) ?hy92091 hHeld ?hr92091
    case hi92091 => (simp only [List.getElem?_toArray, List.getElem?_cons_succ, List.getElem?_cons_zero]; rfl)
    case hd92091 => rfl
    case hy92091 =>
      refine' Or.inl ⟨?hw92091, ?hx92091⟩
      case hw92091 => rfl
      case hx92091 => (intro w hSw; (try dsimp only at hSw); go_simp; (try with_reducible rfl))
    (try simp only [Act.put, List.setIfInBounds_toArray, List.set_cons_zero, List.set_cons_succ])
    refine' tk_any 2 41 (v := _) ?hi92092 ?hd92092 (by kernel_rfl) (by kernel_rfl) (by kernel_rfl) (fun _ _ _ h => h) ?hy92092 hHeld ?hr92092
    case hi92092 => (simp only [List.getElem?_toArray, List.getElem?_cons_succ, List.getElem?_cons_zero]; rfl)
    case hd92092 => rfl
    case hy92092 =>
      refine' Or.inl ⟨?hw92092, ?hx92092⟩
      case hw92092 => rfl
      case hx92092 => (intro w hSw; (try dsimp only at hSw); go_simp; (try with_reducible rfl))
    (try simp only [Act.put, List.setIfInBounds_toArray, List.set_cons_zero, List.set_cons_succ])
    refine' tk_any 3 42 (v := _) ?hi92093 ?hd92093 (by kernel_rfl) (by kernel_rfl) (by kernel_rfl) (fun _ _ _ h => h) ?hy92093 hHeld ?hr92093
    case hi92093 => (simp only [List.getElem?_toArray, List.getElem?_cons_succ, List.getElem?_cons_zero]; rfl)
    case hd92093 => rfl
    case hy92093 =>
      refine' Or.inl ⟨?hw92093, ?hx92093⟩
      case hw92093 => rfl
      case hx92093 => (intro w hSw; (try dsimp only at hSw); go_simp; (try with_reducible rfl))
    (try simp only [Act.put, List.setIfInBounds_toArray, List.set_cons_zero, List.set_cons_succ])
    refine' tk_any 4 43 (v := _) ?hi92094 ?hd92094 (by kernel_rfl) (by kernel_rfl) (by kernel_rfl) (fun _ _ _ h => h) ?hy92094 hHeld ?hr92094
    case hi92094 => (simp only [List.getElem?_toArray, List.getElem?_cons_succ, List.getElem?_cons_zero]; rfl)
    case hd92094 => rfl
    case hy92094 =>
      refine' Or.inl ⟨?hw92094, ?hx92094⟩
      case hw92094 => rfl
      case hx92094 => (intro w hSw; (try dsimp only at hSw); go_simp; (try with_reducible rfl))
    (try simp only [Act.put, List.setIfInBounds_toArray, List.set_cons_zero, List.set_cons_succ])
    refine' tk_any 5 44 (v := _) ?hi92095 ?hd92095 (by kernel_rfl) (by kernel_rfl) (by kernel_rfl) (fun _ _ _ h => h) ?hy92095 hHeld ?hr92095
    case hi92095 => (simp only [List.getElem?_toArray, List.getElem?_cons_succ, List.getElem?_cons_zero]; rfl)
    case hd92095 => rfl
    case hy92095 =>
      refine' Or.inl ⟨?hw92095, ?hx92095⟩
      case hw92095 => rfl
      case hx92095 => (intro w hSw; (try dsimp only at hSw); go_simp; (try with_reducible rfl))
    (try simp only [Act.put, List.setIfInBounds_toArray, List.set_cons_zero, List.set_cons_succ])
    refine' tk_any 6 45 (v := _) ?hi92096 ?hd92096 (by kernel_rfl) (by kernel_rfl) (by kernel_rfl) (fun _ _ _ h => h) ?hy92096 hHeld ?hr92096
    case hi92096 => (simp only [List.getElem?_toArray, List.getElem?_cons_succ, List.getElem?_cons_zero]; rfl)
    case hd92096 => rfl
    case hy92096 =>
      refine' Or.inl ⟨?hw92096, ?hx92096⟩
      case hw92096 => rfl
      case hx92096 => (intro w hSw; (try dsimp only at hSw); go_simp; (try with_reducible rfl))
    (try simp only [Act.put, List.setIfInBounds_toArray, List.set_cons_zero, List.set_cons_succ])
    refine' tk_any 7 46 (v := _) ?hi92097 ?hd92097 (by kernel_rfl) (by kernel_rfl) (by kernel_rfl) (fun _ _ _ h => h) ?hy92097 hHeld ?hr92097
    case hi92097 => (simp only [List.getElem?_toArray, List.getElem?_cons_succ, List.getElem?_cons_zero]; rfl)
    case hd92097 => rfl
    case hy92097 =>
      refine' Or.inl ⟨?hw92097, ?hx92097⟩
      case hw92097 => rfl
      case hx92097 => (intro w hSw; (try dsimp only at hSw); go_simp; (try with_reducible rfl))
    (try simp only [Act.put, List.setIfInBounds_toArray, List.set_cons_zero, List.set_cons_succ])
    refine' tk_call 8 ?hi92098 (by kernel_rfl) ?hr92098
    case hi92098 => (simp only [List.getElem?_toArray, List.getElem?_cons_succ, List.getElem?_cons_zero]; rfl)
    intro K hK
    go_simp
    go_at_call 93
    refine (HCPD.out wd HWE.out HPE.out).mono ?_
    rintro e2 w2 ⟨⟨v, rfl, hv⟩, hs2, hk2⟩
    have HV := Lib.hid hv
    have HS2 := Lib.hid (HSE.out.trans hs2)
    have HK2 := Lib.hid hk2
    have HX2 := Lib.hid (HXE.out.stay hs2 (by have := HCW.out; omega))
    clear hv hs2 hk2
    go_wp2_with fail
    clear hHeld
    refine hK.out _ _ (by (try dsimp only); exact ⟨HX2.out.c6, HX2.out.c7, HX2.out.c8⟩) (fun hHeld => ?_)
    clear hK K
    (try simp only [Act.put, List.setIfInBounds_toArray, List.set_cons_zero, List.set_cons_succ])
    refine' tk_any 9 8 (v := _) ?hi92099 ?hd92099 (by kernel_rfl) (by kernel_rfl) (by kernel_rfl) (fun _ _ _ h => h) ?hy92099 hHeld ?hr92099
    case hi92099 => (simp only [List.getElem?_toArray, List.getElem?_cons_succ, List.getElem?_cons_zero]; rfl)
    case hd92099 => rfl
    case hy92099 =>
      refine' Or.inl ⟨?hw92099, ?hx92099⟩
      case hw92099 => rfl
      case hx92099 => (intro w hSw; (try dsimp only at hSw); go_simp; (try with_reducible rfl))
    (try simp only [Act.put, List.setIfInBounds_toArray, List.set_cons_zero, List.set_cons_succ])
    refine' tk_any 10 9 (v := _) ?hi92100 ?hd92100 (by kernel_rfl) (by kernel_rfl) (by kernel_rfl) (fun _ _ _ h => h) ?hy92100 hHeld ?hr92100
    case hi92100 => (simp only [List.getElem?_toArray, List.getElem?_cons_succ, List.getElem?_cons_zero]; rfl)
    case hd92100 => rfl
    case hy92100 =>
      refine' Or.inl ⟨?hw92100, ?hx92100⟩
      case hw92100 => rfl
      case hx92100 => (intro w hSw; (try dsimp only at hSw); go_simp; (try with_reducible rfl))
    (try simp only [Act.put, List.setIfInBounds_toArray, List.set_cons_zero, List.set_cons_succ])
    refine' tk_any 11 10 (v := _) ?hi92101 ?hd92101 (by kernel_rfl) (by kernel_rfl) (by kernel_rfl) (fun _ _ _ h => h) ?hy92101 hHeld ?hr92101
    case hi92101 => (simp only [List.getElem?_toArray, List.getElem?_cons_succ, List.getElem?_cons_zero]; rfl)
    case hd92101 => rfl
    case hy92101 =>
      refine' Or.inl ⟨?hw92101, ?hx92101⟩
      case hw92101 => rfl
      case hx92101 => (intro w hSw; (try dsimp only at hSw); go_simp; (try with_reducible rfl))
    (try simp only [Act.put, List.setIfInBounds_toArray, List.set_cons_zero, List.set_cons_succ])
    refine wpAnyH_done (by kernel_rfl) ?_ _
    refine NoPanic.normal ?_
    go_wp2
    refine bodyPost_ret (v := .tuple #[.int .i64 d.h.pair, .int .i64 d.h.pl, v]) ?_ ?_ ?_
    · simp [results, Tryd.results88, go_sem]
    · rfl
    · refine ⟨⟨v, ?_, ?_⟩, HS2.out, HK2.out⟩
      · rw [HPX.out]
      · rw [HPX.out]; exact CoSN.mono HV.out fun b _ h => Nat.lt_of_lt_of_le h (Nat.le_trans HB.out.size HDZ.out)
  have b3 : (d.h.pair == 1) = false := beq_false_of_ne a3
  by_cases a4 : c.h.pair = 0
  · have b4 : (c.h.pair == 0) = true := by rw [a4]; rfl
    have HCOND := Lib.hid (show d.h.pair = 1 ∨ c.h.pair = 0 from .inr a4)
    clear a1 a2 a3 a4
    have HPX := Lib.hid (show P = (d.h.pair, d.h.pl, d.pairs) by rw [HP.out, if_neg HN1.out, if_pos HCOND.out])
    go_upto_region 4 with fail
    (try dsimp only [List.append])
    refine wp_region_noPanic ?_
    refine wp_region_held_drew (S := (fun w' => w'.cell? ⟨(w.heap.size + 1), 6, none⟩ = some (.int .i64 d.h.pair) ∧ w'.cell? ⟨(w.heap.size + 1), 7, none⟩ = some (.int .i64 d.h.pl) ∧ w'.cell? ⟨(w.heap.size + 1), 8, none⟩ = some (.slice qa mp qc))) (by kernel_rfl) (by (try dsimp only); exact ⟨(HXD.out.keep (Below.refl W.heap.size W).drew).c6, (HXD.out.keep (Below.refl W.heap.size W).drew).c7, (HXD.out.keep (Below.refl W.heap.size W).drew).c8⟩) (fun hHeld => ?_)
    have hdr : Below W.heap.size W W.drew := (Below.refl _ _).drew
    have HXE := Lib.hid (HXD.out.keep hdr)
    have HSE := Lib.hid (HS.out.then hdr)
    have HWE := Lib.hid (HWK.out.keep hdr)
    have HPE := Lib.hid (CoSN.below HDP.out hdr)
    have HDZ := Lib.hid hdr.size
    clear hdr
    generalize W.drew = wd at hHeld HXE HSE HWE HPE HDZ ⊢
    refine' tk_any 0 39 (v := _) ?hi92102 ?hd92102 (by kernel_rfl) (by kernel_rfl) (by kernel_rfl) (fun _ _ _ h => h) ?hy92102 hHeld ?hr92102
    case hi92102 => (simp only [List.getElem?_toArray, List.getElem?_cons_zero]; rfl)
    case hd92102 => rfl
    case hy92102 =>
      refine' Or.inl ⟨?hw92102, ?hx92102⟩
      case hw92102 => rfl
      case hx92102 => (intro w hSw; (try dsimp only at hSw); go_simp; (try with_reducible rfl))
    (try simp only [Act.put, List.setIfInBounds_toArray, List.set_cons_zero, List.set_cons_succ])
    refine' tk_any 1 40 (v := _) ?hi92103 ?hd92103 (by kernel_rfl) (by kernel_rfl) (by kernel_rfl) (fun _ _ _ h => h) ?hy92103 hHeld ?hr92103
    case hi92103 => (simp only [List.getElem?_toArray, List.getElem?_cons_succ, List.getElem?_cons_zero]; rfl)
    case hd92103 => rfl
    case hy92103 =>
      refine' Or.inl ⟨?hw92103, ?hx92103⟩
      case hw92103 => rfl
      case hx92103 => (intro w hSw; (try dsimp only at hSw); go_simp; (try with_reducible rfl))
    (try simp only [Act.put, List.setIfInBounds_toArray, List.set_cons_zero, List.set_cons_succ])
    refine' tk_any 2 41 (v := _) ?hi92104 ?hd92104 (by kernel_rfl) (by kernel_rfl) (by kernel_rfl) (fun _ _ _ h => h) ?hy92104 hHeld ?hr92104
    case hi92104 => (simp only [List.getElem?_toArray, List.getElem?_cons_succ, List.getElem?_cons_zero]; rfl)
    case hd92104 => rfl
    case hy92104 =>
      refine' Or.inl ⟨?hw92104, ?hx92104⟩
      case hw92104 => rfl
      case hx92104 => (intro w hSw; (try dsimp only at hSw); go_simp; (try with_reducible rfl))
    (try simp only [Act.put, List.setIfInBounds_toArray, List.set_cons_zero, List.set_cons_succ])
    refine' tk_any 3 42 (v := _) ?hi92105 ?hd92105 (by kernel_rfl) (by kernel_rfl) (by kernel_rfl) (fun _ _ _ h => h) ?hy92105 hHeld ?hr92105
    case hi92105 => (simp only [List.getElem?_toArray, List.getElem?_cons_succ, List.getElem?_cons_zero]; rfl)
    case hd92105 => rfl
    case hy92105 =>
      refine' Or.inl ⟨?hw92105, ?hx92105⟩
      case hw92105 => rfl
      case hx92105 => (intro w hSw; (try dsimp only at hSw); go_simp; (try with_reducible rfl))
    (try simp only [Act.put, List.setIfInBounds_toArray, List.set_cons_zero, List.set_cons_succ])
    refine' tk_any 4 43 (v := _) ?hi92106 ?hd92106 (by kernel_rfl) (by kernel_rfl) (by kernel_rfl) (fun _ _ _ h => h) ?hy92106 hHeld ?hr92106
    case hi92106 => (simp only [List.getElem?_toArray, List.getElem?_cons_succ, List.getElem?_cons_zero]; rfl)
    case hd92106 => rfl
    case hy92106 =>
      refine' Or.inl ⟨?hw92106, ?hx92106⟩
      case hw92106 => rfl
      case hx92106 => (intro w hSw; (try dsimp only at hSw); go_simp; (try with_reducible rfl))
    (try simp only [Act.put, List.setIfInBounds_toArray, List.set_cons_zero, List.set_cons_succ])
    refine' tk_any 5 44 (v := _) ?hi92107 ?hd92107 (by kernel_rfl) (by kernel_rfl) (by kernel_rfl) (fun _ _ _ h => h) ?hy92107 hHeld ?hr92107
    case hi92107 => (simp only [List.getElem?_toArray, List.getElem?_cons_succ, List.getElem?_cons_zero]; rfl)
    case hd92107 => rfl
    case hy92107 =>
      refine' Or.inl ⟨?hw92107, ?hx92107⟩
      case hw92107 => rfl
      case hx92107 => (intro w hSw; (try dsimp only at hSw); go_simp; (try with_reducible rfl))
    (try simp only [Act.put, List.setIfInBounds_toArray, List.set_cons_zero, List.set_cons_succ])
    refine' tk_any 6 45 (v := _) ?hi92108 ?hd92108 (by kernel_rfl) (by kernel_rfl) (by kernel_rfl) (fun _ _ _ h => h) ?hy92108 hHeld ?hr92108
    case hi92108 => (simp only [List.getElem?_toArray, List.getElem?_cons_succ, List.getElem?_cons_zero]; rfl)
    case hd92108 => rfl
    case hy92108 =>
      refine' Or.inl ⟨?hw92108, ?hx92108⟩
      case hw92108 => rfl
      case hx92108 => (intro w hSw; (try dsimp only at hSw); go_simp; (try with_reducible rfl))
    (try simp only [Act.put, List.setIfInBounds_toArray, List.set_cons_zero, List.set_cons_succ])
    refine' tk_any 7 46 (v := _) ?hi92109 ?hd92109 (by kernel_rfl) (by kernel_rfl) (by kernel_rfl) (fun _ _ _ h => h) ?hy92109 hHeld ?hr92109
    case hi92109 => (simp only [List.getElem?_toArray, List.getElem?_cons_succ, List.getElem?_cons_zero]; rfl)
    case hd92109 => rfl
    case hy92109 =>
      refine' Or.inl ⟨?hw92109, ?hx92109⟩
      case hw92109 => rfl
      case hx92109 => (intro w hSw; (try dsimp only at hSw); go_simp; (try with_reducible rfl))
    (try simp only [Act.put, List.setIfInBounds_toArray, List.set_cons_zero, List.set_cons_succ])
    refine' tk_call 8 ?hi92110 (by kernel_rfl) ?hr92110
    case hi92110 => (simp only [List.getElem?_toArray, List.getElem?_cons_succ, List.getElem?_cons_zero]; rfl)
    intro K hK
    go_simp
    go_at_call 93
    refine (HCPD.out wd HWE.out HPE.out).mono ?_
    rintro e2 w2 ⟨⟨v, rfl, hv⟩, hs2, hk2⟩
    have HV := Lib.hid hv
    have HS2 := Lib.hid (HSE.out.trans hs2)
    have HK2 := Lib.hid hk2
    have HX2 := Lib.hid (HXE.out.stay hs2 (by have := HCW.out; omega))
    clear hv hs2 hk2
    go_wp2_with fail
    clear hHeld
    refine hK.out _ _ (by (try dsimp only); exact ⟨HX2.out.c6, HX2.out.c7, HX2.out.c8⟩) (fun hHeld => ?_)
    clear hK K
    (try simp only [Act.put, List.setIfInBounds_toArray, List.set_cons_zero, List.set_cons_succ])
    refine' tk_any 9 8 (v := _) ?hi92111 ?hd92111 (by kernel_rfl) (by kernel_rfl) (by kernel_rfl) (fun _ _ _ h => h) ?hy92111 hHeld ?hr92111
    case hi92111 => (simp only [List.getElem?_toArray, List.getElem?_cons_succ, List.getElem?_cons_zero]; rfl)
    case hd92111 => rfl
    case hy92111 =>
      refine' Or.inl ⟨?hw92111, ?hx92111⟩
      case hw92111 => rfl
      case hx92111 => (intro w hSw; (try dsimp only at hSw); go_simp; (try with_reducible rfl))
    (try simp only [Act.put, List.setIfInBounds_toArray, List.set_cons_zero, List.set_cons_succ])
    refine' tk_any 10 9 (v := _) ?hi92112 ?hd92112 (by kernel_rfl) (by kernel_rfl) (by kernel_rfl) (fun _ _ _ h => h) ?hy92112 hHeld ?hr92112
    case hi92112 => (simp only [List.getElem?_toArray, List.getElem?_cons_succ, List.getElem?_cons_zero]; rfl)
    case hd92112 => rfl
    case hy92112 =>
      refine' Or.inl ⟨?hw92112, ?hx92112⟩
      case hw92112 => rfl
      case hx92112 => (intro w hSw; (try dsimp only at hSw); go_simp; (try with_reducible rfl))
    (try simp only [Act.put, List.setIfInBounds_toArray, List.set_cons_zero, List.set_cons_succ])
    refine' tk_any 11 10 (v := _) ?hi92113 ?hd92113 (by kernel_rfl) (by kernel_rfl) (by kernel_rfl) (fun _ _ _ h => h) ?hy92113 hHeld ?hr92113
    case hi92113 => (simp only [List.getElem?_toArray, List.getElem?_cons_succ, List.getElem?_cons_zero]; rfl)
    case hd92113 => rfl
    case hy92113 =>
      refine' Or.inl ⟨?hw92113, ?hx92113⟩
      case hw92113 => rfl
      case hx92113 => (intro w hSw; (try dsimp only at hSw); go_simp; (try with_reducible rfl))
    (try simp only [Act.put, List.setIfInBounds_toArray, List.set_cons_zero, List.set_cons_succ])
    refine wpAnyH_done (by kernel_rfl) ?_ _
    refine NoPanic.normal ?_
    go_wp2
    refine bodyPost_ret (v := .tuple #[.int .i64 d.h.pair, .int .i64 d.h.pl, v]) ?_ ?_ ?_
    · simp [results, Tryd.results88, go_sem]
    · rfl
    · refine ⟨⟨v, ?_, ?_⟩, HS2.out, HK2.out⟩
      · rw [HPX.out]
      · rw [HPX.out]; exact CoSN.mono HV.out fun b _ h => Nat.lt_of_lt_of_le h (Nat.le_trans HB.out.size HDZ.out)
  have b4 : (c.h.pair == 0) = false := beq_false_of_ne a4
  have HN2 := Lib.hid (show ¬ (d.h.pair = 1 ∨ c.h.pair = 0) from fun h => h.elim a3 a4)
  have HTW := Lib.hid (show 2 ≤ c.h.pair ∧ 2 ≤ d.h.pair by have := HLC.out; have := HLD.out; omega)
  clear a1 a2 a3 a4
  have HS0 := HS
  have HKS := Lib.hid (show ∀ wx, Stay (· = cw) W wx → (fun w' => w'.cell? ⟨w.heap.size, 0, none⟩ = some (.int .i64 c.h.f0) ∧ w'.cell? ⟨w.heap.size, 1, none⟩ = some (.int .i64 c.h.f1) ∧ w'.cell? ⟨w.heap.size, 2, none⟩ = some (.int .i64 c.h.f2) ∧ w'.cell? ⟨w.heap.size, 3, none⟩ = some (.int .i64 c.h.f3) ∧ w'.cell? ⟨w.heap.size, 4, none⟩ = some (.int .i64 c.h.f4) ∧ w'.cell? ⟨w.heap.size, 5, none⟩ = some (.int .i64 c.h.f5) ∧ w'.cell? ⟨w.heap.size, 6, none⟩ = some (.int .i64 c.h.pair) ∧ w'.cell? ⟨w.heap.size, 7, none⟩ = some (.int .i64 c.h.pl) ∧ w'.cell? ⟨w.heap.size, 8, none⟩ = some (.slice pa np pc) ∧ w'.cell? ⟨w.heap.size, 9, none⟩ = some (.int .i64 c.h.fn) ∧ w'.cell? ⟨w.heap.size, 10, none⟩ = some (.int .i64 c.h.fl) ∧ w'.cell? ⟨w.heap.size, 11, none⟩ = some (.slice fa nf fc) ∧ w'.cell? ⟨(w.heap.size + 1), 0, none⟩ = some (.int .i64 d.h.f0) ∧ w'.cell? ⟨(w.heap.size + 1), 1, none⟩ = some (.int .i64 d.h.f1) ∧ w'.cell? ⟨(w.heap.size + 1), 2, none⟩ = some (.int .i64 d.h.f2) ∧ w'.cell? ⟨(w.heap.size + 1), 3, none⟩ = some (.int .i64 d.h.f3) ∧ w'.cell? ⟨(w.heap.size + 1), 4, none⟩ = some (.int .i64 d.h.f4) ∧ w'.cell? ⟨(w.heap.size + 1), 5, none⟩ = some (.int .i64 d.h.f5) ∧ w'.cell? ⟨(w.heap.size + 1), 6, none⟩ = some (.int .i64 d.h.pair) ∧ w'.cell? ⟨(w.heap.size + 1), 7, none⟩ = some (.int .i64 d.h.pl) ∧ w'.cell? ⟨(w.heap.size + 1), 8, none⟩ = some (.slice qa mp qc) ∧ w'.cell? ⟨(w.heap.size + 1), 9, none⟩ = some (.int .i64 d.h.fn) ∧ w'.cell? ⟨(w.heap.size + 1), 10, none⟩ = some (.int .i64 d.h.fl) ∧ w'.cell? ⟨(w.heap.size + 1), 11, none⟩ = some (.slice ga mf gc)) wx from fun wx hs => by
    have h1 := HXC.out.stay hs (by have := HCW.out; omega)
    have h2 := HXD.out.stay hs (by have := HCW.out; omega)
    exact ⟨h1.c0, h1.c1, h1.c2, h1.c3, h1.c4, h1.c5, h1.c6, h1.c7, h1.c8, h1.c9, h1.c10, h1.c11, h2.c0, h2.c1, h2.c2, h2.c3, h2.c4, h2.c5, h2.c6, h2.c7, h2.c8, h2.c9, h2.c10, h2.c11⟩)
  go_upto_region 5 with fail
  go_cut [11] from 48 to 55 (fun p wx => ∃ (g11 : Nat) (ra : Option Addr) (rb : Nat) (rc : Option Addr) (rd k1 : Nat) (E : Co), p = .pointer (some ⟨g11, 0, none⟩) ∧ Hid (E = compF n (carC c) (carC d)) ∧ Hid (CBox wx g11 25 ⟨E.h, .slice ra E.pairs.length rb, .slice rc E.funs.length rd⟩) ∧ Hid (CoVN (fun b => Old W.heap.size b ∨ b = g11) wx (.agg #[.int .i64 E.h.f0, .int .i64 E.h.f1, .int .i64 E.h.f2, .int .i64 E.h.f3, .int .i64 E.h.f4, .int .i64 E.h.f5, .int .i64 E.h.pair, .int .i64 E.h.pl, .slice ra E.pairs.length rb, .int .i64 E.h.fn, .int .i64 E.h.fl, .slice rc E.funs.length rd]) E) ∧ Hid (Stay (· = cw) W wx) ∧ Hid (WalkC M cw k1 wx ∧ k1 ≤ k + szC (carC c) * szC (carC d)) ∧ Hid (W.heap.size ≤ g11))
  case first =>
    (try dsimp only [List.append])
    refine wp_region_noPanic ?_
    refine wp_region_held_drew (S := (fun w' => w'.cell? ⟨w.heap.size, 0, none⟩ = some (.int .i64 c.h.f0) ∧ w'.cell? ⟨w.heap.size, 1, none⟩ = some (.int .i64 c.h.f1) ∧ w'.cell? ⟨w.heap.size, 2, none⟩ = some (.int .i64 c.h.f2) ∧ w'.cell? ⟨w.heap.size, 3, none⟩ = some (.int .i64 c.h.f3) ∧ w'.cell? ⟨w.heap.size, 4, none⟩ = some (.int .i64 c.h.f4) ∧ w'.cell? ⟨w.heap.size, 5, none⟩ = some (.int .i64 c.h.f5) ∧ w'.cell? ⟨w.heap.size, 6, none⟩ = some (.int .i64 c.h.pair) ∧ w'.cell? ⟨w.heap.size, 7, none⟩ = some (.int .i64 c.h.pl) ∧ w'.cell? ⟨w.heap.size, 8, none⟩ = some (.slice pa np pc) ∧ w'.cell? ⟨w.heap.size, 9, none⟩ = some (.int .i64 c.h.fn) ∧ w'.cell? ⟨w.heap.size, 10, none⟩ = some (.int .i64 c.h.fl) ∧ w'.cell? ⟨w.heap.size, 11, none⟩ = some (.slice fa nf fc) ∧ w'.cell? ⟨(w.heap.size + 1), 0, none⟩ = some (.int .i64 d.h.f0) ∧ w'.cell? ⟨(w.heap.size + 1), 1, none⟩ = some (.int .i64 d.h.f1) ∧ w'.cell? ⟨(w.heap.size + 1), 2, none⟩ = some (.int .i64 d.h.f2) ∧ w'.cell? ⟨(w.heap.size + 1), 3, none⟩ = some (.int .i64 d.h.f3) ∧ w'.cell? ⟨(w.heap.size + 1), 4, none⟩ = some (.int .i64 d.h.f4) ∧ w'.cell? ⟨(w.heap.size + 1), 5, none⟩ = some (.int .i64 d.h.f5) ∧ w'.cell? ⟨(w.heap.size + 1), 6, none⟩ = some (.int .i64 d.h.pair) ∧ w'.cell? ⟨(w.heap.size + 1), 7, none⟩ = some (.int .i64 d.h.pl) ∧ w'.cell? ⟨(w.heap.size + 1), 8, none⟩ = some (.slice qa mp qc) ∧ w'.cell? ⟨(w.heap.size + 1), 9, none⟩ = some (.int .i64 d.h.fn) ∧ w'.cell? ⟨(w.heap.size + 1), 10, none⟩ = some (.int .i64 d.h.fl) ∧ w'.cell? ⟨(w.heap.size + 1), 11, none⟩ = some (.slice ga mf gc))) (by kernel_rfl) (by (try dsimp only); exact HKS.out _ (Stay.of (Below.refl W.heap.size W).drew)) (fun hHeld => ?_)
    have hdr : Below W.heap.size W W.drew := (Below.refl _ _).drew
    replace HWK := Lib.hid (HWK.out.keep hdr)
    have HSS := Lib.hid (Stay.of (N := (· = cw)) hdr)
    have HZZ := Lib.hid hdr.size
    clear hdr
    generalize W.drew = wd at hHeld HWK HSS HZZ ⊢
    refine' tk_any 0 48 (v := _) ?hi92001 ?hd92001 (by kernel_rfl) (by kernel_rfl) (by kernel_rfl) (fun _ _ _ h => h) ?hy92001 hHeld ?hr92001
    case hi92001 => (simp only [List.getElem?_toArray, List.getElem?_cons_zero]; rfl)
    case hd92001 => rfl
    case hy92001 =>
      refine' Or.inl ⟨?hw92001, ?hx92001⟩
      case hw92001 => rfl
      case hx92001 => (intro w hSw; (try dsimp only at hSw); go_simp; (try with_reducible rfl))
    (try simp only [Act.put, List.setIfInBounds_toArray, List.set_cons_zero, List.set_cons_succ])
    refine' tk_any 1 49 (v := _) ?hi92002 ?hd92002 (by kernel_rfl) (by kernel_rfl) (by kernel_rfl) (fun _ _ _ h => h) ?hy92002 hHeld ?hr92002
    case hi92002 => (simp only [List.getElem?_toArray, List.getElem?_cons_succ, List.getElem?_cons_zero]; rfl)
    case hd92002 => rfl
    case hy92002 =>
      refine' Or.inl ⟨?hw92002, ?hx92002⟩
      case hw92002 => rfl
      case hx92002 => (intro w hSw; (try dsimp only at hSw); go_simp; (try with_reducible rfl))
    (try simp only [Act.put, List.setIfInBounds_toArray, List.set_cons_zero, List.set_cons_succ])
    refine' tk_any 3 51 (v := _) ?hi92003 ?hd92003 (by kernel_rfl) (by kernel_rfl) (by kernel_rfl) (fun _ _ _ h => h) ?hy92003 hHeld ?hr92003
    case hi92003 => (simp only [List.getElem?_toArray, List.getElem?_cons_succ, List.getElem?_cons_zero]; rfl)
    case hd92003 => rfl
    case hy92003 =>
      refine' Or.inl ⟨?hw92003, ?hx92003⟩
      case hw92003 => rfl
      case hx92003 => (intro w hSw; (try dsimp only at hSw); go_simp; (try with_reducible rfl))
    (try simp only [Act.put, List.setIfInBounds_toArray, List.set_cons_zero, List.set_cons_succ])
    refine' tk_any 5 53 (v := _) ?hi92004 ?hd92004 (by kernel_rfl) (by kernel_rfl) (by kernel_rfl) (fun _ _ _ h => h) ?hy92004 hHeld ?hr92004
    case hi92004 => (simp only [List.getElem?_toArray, List.getElem?_cons_succ, List.getElem?_cons_zero]; rfl)
    case hd92004 => rfl
    case hy92004 =>
      refine' Or.inl ⟨?hw92004, ?hx92004⟩
      case hw92004 => rfl
      case hx92004 => (intro w hSw; (try dsimp only at hSw); go_simp; (try with_reducible rfl))
    (try simp only [Act.put, List.setIfInBounds_toArray, List.set_cons_zero, List.set_cons_succ])
    refine' tk_any 6 54 (v := _) ?hi92005 ?hd92005 (by kernel_rfl) (by kernel_rfl) (by kernel_rfl) (fun _ _ _ h => h) ?hy92005 hHeld ?hr92005
    case hi92005 => (simp only [List.getElem?_toArray, List.getElem?_cons_succ, List.getElem?_cons_zero]; rfl)
    case hd92005 => rfl
    case hy92005 =>
      refine' Or.inl ⟨?hw92005, ?hx92005⟩
      case hw92005 => rfl
      case hx92005 => (intro w hSw; (try dsimp only at hSw); go_simp; (try with_reducible rfl))
    (try simp only [Act.put, List.setIfInBounds_toArray, List.set_cons_zero, List.set_cons_succ])
    refine' tk_two 2 8 ?hi92019 ?hj92019 (by kernel_rfl) ?ha92019 ?hb92019
    case hi92019 => (simp only [List.getElem?_toArray, List.getElem?_cons_succ, List.getElem?_cons_zero]; rfl)
    case hj92019 => (simp only [List.getElem?_toArray, List.getElem?_cons_succ, List.getElem?_cons_zero]; rfl)
    case ha92019 =>
      intro K hK
      go_simp
      go_at_call 52
      refine (HCAR.out wd (HS0.out.trans HSS.out)).mono ?_
      rintro e2 w2 ⟨⟨v, rfl, hv⟩, hb⟩
      obtain ⟨ua, ub, uc, ud, rfl, _, _⟩ := hv.form
      have hs := Stay.of (N := (· = cw)) hb
      replace HWK := Lib.hid (HWK.out.keep hb)
      replace HSS := Lib.hid (HSS.out.trans hs)
      replace HZZ := Lib.hid (Nat.le_trans HZZ.out hs.size)
      have HU := Lib.hid hv
      clear hs hb hv
      go_wp2_with fail
      clear hHeld
      refine hK.out _ _ (by (try dsimp only); exact HKS.out _ HSS.out) (fun hHeld => ?_)
      clear hK K
      (try simp only [Act.put, List.setIfInBounds_toArray, List.set_cons_zero, List.set_cons_succ])
      refine' tk_two 4 8 ?hi92014 ?hj92014 (by kernel_rfl) ?ha92014 ?hb92014
      case hi92014 => (simp only [List.getElem?_toArray, List.getElem?_cons_succ, List.getElem?_cons_zero]; rfl)
      case hj92014 => (simp only [List.getElem?_toArray, List.getElem?_cons_succ, List.getElem?_cons_zero]; rfl)
      case ha92014 =>
        intro K hK
        go_simp
        go_at_call 52
        refine (HDAR.out w2 (HS0.out.trans HSS.out)).mono ?_
        rintro e2 w4 ⟨⟨v, rfl, hv⟩, hb⟩
        obtain ⟨va, vb, vc, vd, rfl, _, _⟩ := hv.form
        have hs := Stay.of (N := (· = cw)) hb
        replace HWK := Lib.hid (HWK.out.keep hb)
        replace HU := Lib.hid (CoVN.stay HU.out hs)
        replace HSS := Lib.hid (HSS.out.trans hs)
        replace HZZ := Lib.hid (Nat.le_trans HZZ.out hs.size)
        have HV := Lib.hid hv
        clear hs hb hv
        go_wp2_with fail
        clear hHeld
        refine hK.out _ _ (by (try dsimp only); exact HKS.out _ HSS.out) (fun hHeld => ?_)
        clear hK K
        (try simp only [Act.put, List.setIfInBounds_toArray, List.set_cons_zero, List.set_cons_succ])
        refine' tk_two 7 8 ?hi92010 ?hj92010 (by kernel_rfl) ?ha92010 ?hb92010
        case hi92010 => (simp only [List.getElem?_toArray, List.getElem?_cons_succ, List.getElem?_cons_zero]; rfl)
        case hj92010 => (simp only [List.getElem?_toArray, List.getElem?_cons_succ, List.getElem?_cons_zero]; rfl)
        case ha92010 =>
          intro K hK
          go_simp
          go_at_call 63
          refine (HCA.out HTW.out.1 HTW.out.2 w4 _ _ (HS0.out.trans HSS.out) HWK.out HU.out HV.out).mono ?_
          rintro e2 w7 ⟨⟨v, rfl, hv⟩, hs, k1, hk1, hw1⟩
          obtain ⟨ra, rb, rc, rd, rfl, _, _⟩ := hv.form
          replace HWK := Lib.hid hw1
          have HK1 := Lib.hid hk1
          clear HU HV
          have HR := Lib.hid (show CoVN (Old W.heap.size) w7 _ (compF n (carC c) (carC d)) from CoVN.mono hv fun b _ h => Nat.lt_of_lt_of_le h HZZ.out)
          replace HSS := Lib.hid (HSS.out.trans hs)
          replace HZZ := Lib.hid (Nat.le_trans HZZ.out hs.size)
          clear hv hs hk1 hw1
          go_wp2_with fail
          clear hHeld
          refine hK.out _ _ (by (try dsimp only); exact HKS.out _ HSS.out) (fun hHeld => ?_)
          clear hK K
          (try simp only [Act.put, List.setIfInBounds_toArray, List.set_cons_zero, List.set_cons_succ])
          refine' tk_call 8 ?hi92006 (by kernel_rfl) ?hr92006
          case hi92006 => (simp only [List.getElem?_toArray, List.getElem?_cons_succ, List.getElem?_cons_zero]; rfl)
          intro K hK
          go_simp
          obtain ⟨wA, hwA⟩ : ∃ x : World, x = w7.alloc (.cells #[.int .i64 0, .int .i64 0, .int .i64 0, .int .i64 0, .int .i64 0, .int .i64 0, .int .i64 0, .int .i64 0, .slice none 0 0, .int .i64 0, .int .i64 0, .slice none 0 0] 25) := ⟨_, rfl⟩
          rw [← hwA]
          have hb : Below w7.heap.size w7 wA := by rw [hwA]; exact (Below.refl _ _).alloc (Nat.le_refl _) _
          have hs := Stay.of (N := (· = cw)) hb
          replace HWK := Lib.hid (HWK.out.keep hb)
          obtain ⟨g11, hg11⟩ : ∃ x, x = w7.heap.size := ⟨_, rfl⟩
          rw [← hg11]
          have hgb : CBox wA g11 25 ⟨⟨0, 0, 0, 0, 0, 0, 0, 0, 0, 0⟩, .slice none 0 0, .slice none 0 0⟩ := by rw [hwA, hg11]; exact CBox.made w7 25 ⟨⟨0, 0, 0, 0, 0, 0, 0, 0, 0, 0⟩, .slice none 0 0, .slice none 0 0⟩
          have HGL := Lib.hid (show W.heap.size ≤ g11 by rw [hg11]; exact HZZ.out)
          replace HR := Lib.hid (CoVN.later (M := fun b => Old W.heap.size b ∨ b = g11) HR.out hb fun b h => h.elim .inl fun h => .inr (by rw [h, hg11]; exact Nat.le_refl _))
          replace HSS := Lib.hid (HSS.out.trans hs)
          replace HZZ := Lib.hid (Nat.le_trans HZZ.out hs.size)
          have HG := Lib.hid hgb
          clear hs hb hgb hwA hg11
          clear hHeld
          refine hK.out _ _ (by (try dsimp only); exact HKS.out _ HSS.out) (fun hHeld => ?_)
          clear hK K
          (try simp only [Act.put, List.setIfInBounds_toArray, List.set_cons_zero, List.set_cons_succ])
          obtain ⟨E, hE⟩ : ∃ E, E = compF n (carC c) (carC d) := ⟨_, rfl⟩
          rw [← hE] at HR ⊢
          have HEQ := Lib.hid hE
          clear hE
          have r0 : wA.cell? ⟨g11, 0, none⟩ = some (.int .i64 0) := HG.out.c0
          have r1 : wA.cell? ⟨g11, 1, none⟩ = some (.int .i64 0) := HG.out.c1
          have r2 : wA.cell? ⟨g11, 2, none⟩ = some (.int .i64 0) := HG.out.c2
          have r3 : wA.cell? ⟨g11, 3, none⟩ = some (.int .i64 0) := HG.out.c3
          have r4 : wA.cell? ⟨g11, 4, none⟩ = some (.int .i64 0) := HG.out.c4
          have r5 : wA.cell? ⟨g11, 5, none⟩ = some (.int .i64 0) := HG.out.c5
          have r6 : wA.cell? ⟨g11, 6, none⟩ = some (.int .i64 0) := HG.out.c6
          have r7 : wA.cell? ⟨g11, 7, none⟩ = some (.int .i64 0) := HG.out.c7
          have r8 : wA.cell? ⟨g11, 8, none⟩ = some (.slice none 0 0) := HG.out.c8
          have r9 : wA.cell? ⟨g11, 9, none⟩ = some (.int .i64 0) := HG.out.c9
          have r10 : wA.cell? ⟨g11, 10, none⟩ = some (.int .i64 0) := HG.out.c10
          have r11 : wA.cell? ⟨g11, 11, none⟩ = some (.slice none 0 0) := HG.out.c11
          have fr0 : wA.frozen? ⟨g11, 0, none⟩ = false := HG.out.fr 0
          have fr1 : wA.frozen? ⟨g11, 1, none⟩ = false := HG.out.fr 1
          have fr2 : wA.frozen? ⟨g11, 2, none⟩ = false := HG.out.fr 2
          have fr3 : wA.frozen? ⟨g11, 3, none⟩ = false := HG.out.fr 3
          have fr4 : wA.frozen? ⟨g11, 4, none⟩ = false := HG.out.fr 4
          have fr5 : wA.frozen? ⟨g11, 5, none⟩ = false := HG.out.fr 5
          have fr6 : wA.frozen? ⟨g11, 6, none⟩ = false := HG.out.fr 6
          have fr7 : wA.frozen? ⟨g11, 7, none⟩ = false := HG.out.fr 7
          have fr8 : wA.frozen? ⟨g11, 8, none⟩ = false := HG.out.fr 8
          have fr9 : wA.frozen? ⟨g11, 9, none⟩ = false := HG.out.fr 9
          have fr10 : wA.frozen? ⟨g11, 10, none⟩ = false := HG.out.fr 10
          have fr11 : wA.frozen? ⟨g11, 11, none⟩ = false := HG.out.fr 11
          refine' tk_call 9 ?hi92007 (by kernel_rfl) ?hr92007
          case hi92007 => (simp only [List.getElem?_toArray, List.getElem?_cons_succ, List.getElem?_cons_zero]; rfl)
          intro K hK
          go_simp
          have HGB := Lib.hid (show CBox (set12 wA g11 ⟨E.h, .slice ra E.pairs.length rb, .slice rc E.funs.length rd⟩) g11 25 ⟨E.h, .slice ra E.pairs.length rb, .slice rc E.funs.length rd⟩ from CBox.set12 HG.out)
          have HRB := Lib.hid (CoVN.set12 (g := g11) (r' := ⟨E.h, .slice ra E.pairs.length rb, .slice rc E.funs.length rd⟩) HR.out (.inr rfl))
          have HSB := Lib.hid (show Stay (· = cw) W (set12 wA g11 ⟨E.h, .slice ra E.pairs.length rb, .slice rc E.funs.length rd⟩) from HSS.out.set12 HGL.out)
          have HWB := Lib.hid (show WalkC M cw k1 (set12 wA g11 ⟨E.h, .slice ra E.pairs.length rb, .slice rc E.funs.length rd⟩) from VarIs.set12 HWK.out (by have := HGL.out; have := HSZ.out; have := HCW.out; omega))
          change K _ (set12 wA g11 ⟨E.h, .slice ra E.pairs.length rb, .slice rc E.funs.length rd⟩)
          generalize set12 wA g11 ⟨E.h, .slice ra E.pairs.length rb, .slice rc E.funs.length rd⟩ = wB at HGB HRB HSB HWB ⊢
          clear hHeld
          refine hK.out _ _ (by (try dsimp only); exact HKS.out _ HSB.out) (fun hHeld => ?_)
          clear hK K
          (try simp only [Act.put, List.setIfInBounds_toArray, List.set_cons_zero, List.set_cons_succ])
          refine wpAnyH_done (by kernel_rfl) ?_ _
          refine NoPanic.normal ?_
          clear r0 fr0 r1 fr1 r2 fr2 r3 fr3 r4 fr4 r5 fr5 r6 fr6 r7 fr7 r8 fr8 r9 fr9 r10 fr10 r11 fr11
          go_wp2
          go_meet
          case rel => exact ⟨g11, ra, rb, rc, rd, k1, E, rfl, HEQ, HGB, HRB, HSB, Lib.hid ⟨HWB.out, HK1.out⟩, HGL⟩
        case hb92010 =>
          intro K hK
          go_simp
          obtain ⟨wA, hwA⟩ : ∃ x : World, x = w4.alloc (.cells #[.int .i64 0, .int .i64 0, .int .i64 0, .int .i64 0, .int .i64 0, .int .i64 0, .int .i64 0, .int .i64 0, .slice none 0 0, .int .i64 0, .int .i64 0, .slice none 0 0] 25) := ⟨_, rfl⟩
          rw [← hwA]
          have hb : Below w4.heap.size w4 wA := by rw [hwA]; exact (Below.refl _ _).alloc (Nat.le_refl _) _
          have hs := Stay.of (N := (· = cw)) hb
          replace HWK := Lib.hid (HWK.out.keep hb)
          obtain ⟨g11, hg11⟩ : ∃ x, x = w4.heap.size := ⟨_, rfl⟩
          rw [← hg11]
          have hgb : CBox wA g11 25 ⟨⟨0, 0, 0, 0, 0, 0, 0, 0, 0, 0⟩, .slice none 0 0, .slice none 0 0⟩ := by rw [hwA, hg11]; exact CBox.made w4 25 ⟨⟨0, 0, 0, 0, 0, 0, 0, 0, 0, 0⟩, .slice none 0 0, .slice none 0 0⟩
          have HGL := Lib.hid (show W.heap.size ≤ g11 by rw [hg11]; exact HZZ.out)
          replace HU := Lib.hid (CoVN.stay HU.out hs)
          replace HV := Lib.hid (CoVN.stay HV.out hs)
          replace HSS := Lib.hid (HSS.out.trans hs)
          replace HZZ := Lib.hid (Nat.le_trans HZZ.out hs.size)
          have HG := Lib.hid hgb
          clear hs hb hgb hwA hg11
          clear hHeld
          refine hK.out _ _ (by (try dsimp only); exact HKS.out _ HSS.out) (fun hHeld => ?_)
          clear hK K
          (try simp only [Act.put, List.setIfInBounds_toArray, List.set_cons_zero, List.set_cons_succ])
          refine' tk_call 7 ?hi92008 (by kernel_rfl) ?hr92008
          case hi92008 => (simp only [List.getElem?_toArray, List.getElem?_cons_succ, List.getElem?_cons_zero]; rfl)
          intro K hK
          go_simp
          go_at_call 63
          refine (HCA.out HTW.out.1 HTW.out.2 wA _ _ (HS0.out.trans HSS.out) HWK.out HU.out HV.out).mono ?_
          rintro e2 w7 ⟨⟨v, rfl, hv⟩, hs, k1, hk1, hw1⟩
          obtain ⟨ra, rb, rc, rd, rfl, _, _⟩ := hv.form
          replace HWK := Lib.hid hw1
          have HK1 := Lib.hid hk1
          clear HU HV
          have HR := Lib.hid (show CoVN (fun b => Old W.heap.size b ∨ b = g11) w7 _ (compF n (carC c) (carC d)) from CoVN.mono hv fun b _ h => h.elim (fun h => Nat.lt_of_lt_of_le h HZZ.out) fun h => by rw [h]; exact HG.out.lt)
          replace HG := Lib.hid (HG.out.stay hs (by have := HGL.out; have := HCW.out; have := HSZ.out; omega))
          replace HSS := Lib.hid (HSS.out.trans hs)
          replace HZZ := Lib.hid (Nat.le_trans HZZ.out hs.size)
          clear hv hs hk1 hw1
          go_wp2_with fail
          clear hHeld
          refine hK.out _ _ (by (try dsimp only); exact HKS.out _ HSS.out) (fun hHeld => ?_)
          clear hK K
          (try simp only [Act.put, List.setIfInBounds_toArray, List.set_cons_zero, List.set_cons_succ])
          obtain ⟨E, hE⟩ : ∃ E, E = compF n (carC c) (carC d) := ⟨_, rfl⟩
          rw [← hE] at HR ⊢
          have HEQ := Lib.hid hE
          clear hE
          have r0 : w7.cell? ⟨g11, 0, none⟩ = some (.int .i64 0) := HG.out.c0
          have r1 : w7.cell? ⟨g11, 1, none⟩ = some (.int .i64 0) := HG.out.c1
          have r2 : w7.cell? ⟨g11, 2, none⟩ = some (.int .i64 0) := HG.out.c2
          have r3 : w7.cell? ⟨g11, 3, none⟩ = some (.int .i64 0) := HG.out.c3
          have r4 : w7.cell? ⟨g11, 4, none⟩ = some (.int .i64 0) := HG.out.c4
          have r5 : w7.cell? ⟨g11, 5, none⟩ = some (.int .i64 0) := HG.out.c5
          have r6 : w7.cell? ⟨g11, 6, none⟩ = some (.int .i64 0) := HG.out.c6
          have r7 : w7.cell? ⟨g11, 7, none⟩ = some (.int .i64 0) := HG.out.c7
          have r8 : w7.cell? ⟨g11, 8, none⟩ = some (.slice none 0 0) := HG.out.c8
          have r9 : w7.cell? ⟨g11, 9, none⟩ = some (.int .i64 0) := HG.out.c9
          have r10 : w7.cell? ⟨g11, 10, none⟩ = some (.int .i64 0) := HG.out.c10
          have r11 : w7.cell? ⟨g11, 11, none⟩ = some (.slice none 0 0) := HG.out.c11
          have fr0 : w7.frozen? ⟨g11, 0, none⟩ = false := HG.out.fr 0
          have fr1 : w7.frozen? ⟨g11, 1, none⟩ = false := HG.out.fr 1
          have fr2 : w7.frozen? ⟨g11, 2, none⟩ = false := HG.out.fr 2
          have fr3 : w7.frozen? ⟨g11, 3, none⟩ = false := HG.out.fr 3
          have fr4 : w7.frozen? ⟨g11, 4, none⟩ = false := HG.out.fr 4
          have fr5 : w7.frozen? ⟨g11, 5, none⟩ = false := HG.out.fr 5
          have fr6 : w7.frozen? ⟨g11, 6, none⟩ = false := HG.out.fr 6
          have fr7 : w7.frozen? ⟨g11, 7, none⟩ = false := HG.out.fr 7
          have fr8 : w7.frozen? ⟨g11, 8, none⟩ = false := HG.out.fr 8
          have fr9 : w7.frozen? ⟨g11, 9, none⟩ = false := HG.out.fr 9
          have fr10 : w7.frozen? ⟨g11, 10, none⟩ = false := HG.out.fr 10
          have fr11 : w7.frozen? ⟨g11, 11, none⟩ = false := HG.out.fr 11
          refine' tk_call 9 ?hi92009 (by kernel_rfl) ?hr92009
          case hi92009 => (simp only [List.getElem?_toArray, List.getElem?_cons_succ, List.getElem?_cons_zero]; rfl)
          intro K hK
          go_simp
          have HGB := Lib.hid (show CBox (set12 w7 g11 ⟨E.h, .slice ra E.pairs.length rb, .slice rc E.funs.length rd⟩) g11 25 ⟨E.h, .slice ra E.pairs.length rb, .slice rc E.funs.length rd⟩ from CBox.set12 HG.out)
          have HRB := Lib.hid (CoVN.set12 (g := g11) (r' := ⟨E.h, .slice ra E.pairs.length rb, .slice rc E.funs.length rd⟩) HR.out (.inr rfl))
          have HSB := Lib.hid (show Stay (· = cw) W (set12 w7 g11 ⟨E.h, .slice ra E.pairs.length rb, .slice rc E.funs.length rd⟩) from HSS.out.set12 HGL.out)
          have HWB := Lib.hid (show WalkC M cw k1 (set12 w7 g11 ⟨E.h, .slice ra E.pairs.length rb, .slice rc E.funs.length rd⟩) from VarIs.set12 HWK.out (by have := HGL.out; have := HSZ.out; have := HCW.out; omega))
          change K _ (set12 w7 g11 ⟨E.h, .slice ra E.pairs.length rb, .slice rc E.funs.length rd⟩)
          generalize set12 w7 g11 ⟨E.h, .slice ra E.pairs.length rb, .slice rc E.funs.length rd⟩ = wB at HGB HRB HSB HWB ⊢
          clear hHeld
          refine hK.out _ _ (by (try dsimp only); exact HKS.out _ HSB.out) (fun hHeld => ?_)
          clear hK K
          (try simp only [Act.put, List.setIfInBounds_toArray, List.set_cons_zero, List.set_cons_succ])
          refine wpAnyH_done (by kernel_rfl) ?_ _
          refine NoPanic.normal ?_
          clear r0 fr0 r1 fr1 r2 fr2 r3 fr3 r4 fr4 r5 fr5 r6 fr6 r7 fr7 r8 fr8 r9 fr9 r10 fr10 r11 fr11
          go_wp2
          go_meet
          case rel => exact ⟨g11, ra, rb, rc, rd, k1, E, rfl, HEQ, HGB, HRB, HSB, Lib.hid ⟨HWB.out, HK1.out⟩, HGL⟩
      case hb92014 =>
        intro K hK
        go_simp
        obtain ⟨wA, hwA⟩ : ∃ x : World, x = w2.alloc (.cells #[.int .i64 0, .int .i64 0, .int .i64 0, .int .i64 0, .int .i64 0, .int .i64 0, .int .i64 0, .int .i64 0, .slice none 0 0, .int .i64 0, .int .i64 0, .slice none 0 0] 25) := ⟨_, rfl⟩
        rw [← hwA]
        have hb : Below w2.heap.size w2 wA := by rw [hwA]; exact (Below.refl _ _).alloc (Nat.le_refl _) _
        have hs := Stay.of (N := (· = cw)) hb
        replace HWK := Lib.hid (HWK.out.keep hb)
        obtain ⟨g11, hg11⟩ : ∃ x, x = w2.heap.size := ⟨_, rfl⟩
        rw [← hg11]
        have hgb : CBox wA g11 25 ⟨⟨0, 0, 0, 0, 0, 0, 0, 0, 0, 0⟩, .slice none 0 0, .slice none 0 0⟩ := by rw [hwA, hg11]; exact CBox.made w2 25 ⟨⟨0, 0, 0, 0, 0, 0, 0, 0, 0, 0⟩, .slice none 0 0, .slice none 0 0⟩
        have HGL := Lib.hid (show W.heap.size ≤ g11 by rw [hg11]; exact HZZ.out)
        replace HU := Lib.hid (CoVN.stay HU.out hs)
        replace HSS := Lib.hid (HSS.out.trans hs)
        replace HZZ := Lib.hid (Nat.le_trans HZZ.out hs.size)
        have HG := Lib.hid hgb
        clear hs hb hgb hwA hg11
        clear hHeld
        refine hK.out _ _ (by (try dsimp only); exact HKS.out _ HSS.out) (fun hHeld => ?_)
        clear hK K
        (try simp only [Act.put, List.setIfInBounds_toArray, List.set_cons_zero, List.set_cons_succ])
        refine' tk_call 4 ?hi92011 (by kernel_rfl) ?hr92011
        case hi92011 => (simp only [List.getElem?_toArray, List.getElem?_cons_succ, List.getElem?_cons_zero]; rfl)
        intro K hK
        go_simp
        go_at_call 52
        refine (HDAR.out wA (HS0.out.trans HSS.out)).mono ?_
        rintro e2 w4 ⟨⟨v, rfl, hv⟩, hb⟩
        obtain ⟨va, vb, vc, vd, rfl, _, _⟩ := hv.form
        have hs := Stay.of (N := (· = cw)) hb
        replace HWK := Lib.hid (HWK.out.keep hb)
        replace HU := Lib.hid (CoVN.stay HU.out hs)
        replace HG := Lib.hid (HG.out.stay hs (by have := HGL.out; have := HCW.out; have := HSZ.out; omega))
        replace HSS := Lib.hid (HSS.out.trans hs)
        replace HZZ := Lib.hid (Nat.le_trans HZZ.out hs.size)
        have HV := Lib.hid hv
        clear hs hb hv
        go_wp2_with fail
        clear hHeld
        refine hK.out _ _ (by (try dsimp only); exact HKS.out _ HSS.out) (fun hHeld => ?_)
        clear hK K
        (try simp only [Act.put, List.setIfInBounds_toArray, List.set_cons_zero, List.set_cons_succ])
        refine' tk_call 7 ?hi92012 (by kernel_rfl) ?hr92012
        case hi92012 => (simp only [List.getElem?_toArray, List.getElem?_cons_succ, List.getElem?_cons_zero]; rfl)
        intro K hK
        go_simp
        go_at_call 63
        refine (HCA.out HTW.out.1 HTW.out.2 w4 _ _ (HS0.out.trans HSS.out) HWK.out HU.out HV.out).mono ?_
        rintro e2 w7 ⟨⟨v, rfl, hv⟩, hs, k1, hk1, hw1⟩
        obtain ⟨ra, rb, rc, rd, rfl, _, _⟩ := hv.form
        replace HWK := Lib.hid hw1
        have HK1 := Lib.hid hk1
        clear HU HV
        have HR := Lib.hid (show CoVN (fun b => Old W.heap.size b ∨ b = g11) w7 _ (compF n (carC c) (carC d)) from CoVN.mono hv fun b _ h => h.elim (fun h => Nat.lt_of_lt_of_le h HZZ.out) fun h => by rw [h]; exact HG.out.lt)
        replace HG := Lib.hid (HG.out.stay hs (by have := HGL.out; have := HCW.out; have := HSZ.out; omega))
        replace HSS := Lib.hid (HSS.out.trans hs)
        replace HZZ := Lib.hid (Nat.le_trans HZZ.out hs.size)
        clear hv hs hk1 hw1
        go_wp2_with fail
        clear hHeld
        refine hK.out _ _ (by (try dsimp only); exact HKS.out _ HSS.out) (fun hHeld => ?_)
        clear hK K
        (try simp only [Act.put, List.setIfInBounds_toArray, List.set_cons_zero, List.set_cons_succ])
        obtain ⟨E, hE⟩ : ∃ E, E = compF n (carC c) (carC d) := ⟨_, rfl⟩
        rw [← hE] at HR ⊢
        have HEQ := Lib.hid hE
        clear hE
        have r0 : w7.cell? ⟨g11, 0, none⟩ = some (.int .i64 0) := HG.out.c0
        have r1 : w7.cell? ⟨g11, 1, none⟩ = some (.int .i64 0) := HG.out.c1
        have r2 : w7.cell? ⟨g11, 2, none⟩ = some (.int .i64 0) := HG.out.c2
        have r3 : w7.cell? ⟨g11, 3, none⟩ = some (.int .i64 0) := HG.out.c3
        have r4 : w7.cell? ⟨g11, 4, none⟩ = some (.int .i64 0) := HG.out.c4
        have r5 : w7.cell? ⟨g11, 5, none⟩ = some (.int .i64 0) := HG.out.c5
        have r6 : w7.cell? ⟨g11, 6, none⟩ = some (.int .i64 0) := HG.out.c6
        have r7 : w7.cell? ⟨g11, 7, none⟩ = some (.int .i64 0) := HG.out.c7
        have r8 : w7.cell? ⟨g11, 8, none⟩ = some (.slice none 0 0) := HG.out.c8
        have r9 : w7.cell? ⟨g11, 9, none⟩ = some (.int .i64 0) := HG.out.c9
        have r10 : w7.cell? ⟨g11, 10, none⟩ = some (.int .i64 0) := HG.out.c10
        have r11 : w7.cell? ⟨g11, 11, none⟩ = some (.slice none 0 0) := HG.out.c11
        have fr0 : w7.frozen? ⟨g11, 0, none⟩ = false := HG.out.fr 0
        have fr1 : w7.frozen? ⟨g11, 1, none⟩ = false := HG.out.fr 1
        have fr2 : w7.frozen? ⟨g11, 2, none⟩ = false := HG.out.fr 2
        have fr3 : w7.frozen? ⟨g11, 3, none⟩ = false := HG.out.fr 3
        have fr4 : w7.frozen? ⟨g11, 4, none⟩ = false := HG.out.fr 4
        have fr5 : w7.frozen? ⟨g11, 5, none⟩ = false := HG.out.fr 5
        have fr6 : w7.frozen? ⟨g11, 6, none⟩ = false := HG.out.fr 6
        have fr7 : w7.frozen? ⟨g11, 7, none⟩ = false := HG.out.fr 7
        have fr8 : w7.frozen? ⟨g11, 8, none⟩ = false := HG.out.fr 8
        have fr9 : w7.frozen? ⟨g11, 9, none⟩ = false := HG.out.fr 9
        have fr10 : w7.frozen? ⟨g11, 10, none⟩ = false := HG.out.fr 10
        have fr11 : w7.frozen? ⟨g11, 11, none⟩ = false := HG.out.fr 11
        refine' tk_call 9 ?hi92013 (by kernel_rfl) ?hr92013
        case hi92013 => (simp only [List.getElem?_toArray, List.getElem?_cons_succ, List.getElem?_cons_zero]; rfl)
        intro K hK
        go_simp
        have HGB := Lib.hid (show CBox (set12 w7 g11 ⟨E.h, .slice ra E.pairs.length rb, .slice rc E.funs.length rd⟩) g11 25 ⟨E.h, .slice ra E.pairs.length rb, .slice rc E.funs.length rd⟩ from CBox.set12 HG.out)
        have HRB := Lib.hid (CoVN.set12 (g := g11) (r' := ⟨E.h, .slice ra E.pairs.length rb, .slice rc E.funs.length rd⟩) HR.out (.inr rfl))
        have HSB := Lib.hid (show Stay (· = cw) W (set12 w7 g11 ⟨E.h, .slice ra E.pairs.length rb, .slice rc E.funs.length rd⟩) from HSS.out.set12 HGL.out)
        have HWB := Lib.hid (show WalkC M cw k1 (set12 w7 g11 ⟨E.h, .slice ra E.pairs.length rb, .slice rc E.funs.length rd⟩) from VarIs.set12 HWK.out (by have := HGL.out; have := HSZ.out; have := HCW.out; omega))
        change K _ (set12 w7 g11 ⟨E.h, .slice ra E.pairs.length rb, .slice rc E.funs.length rd⟩)
        generalize set12 w7 g11 ⟨E.h, .slice ra E.pairs.length rb, .slice rc E.funs.length rd⟩ = wB at HGB HRB HSB HWB ⊢
        clear hHeld
        refine hK.out _ _ (by (try dsimp only); exact HKS.out _ HSB.out) (fun hHeld => ?_)
        clear hK K
        (try simp only [Act.put, List.setIfInBounds_toArray, List.set_cons_zero, List.set_cons_succ])
        refine wpAnyH_done (by kernel_rfl) ?_ _
        refine NoPanic.normal ?_
        clear r0 fr0 r1 fr1 r2 fr2 r3 fr3 r4 fr4 r5 fr5 r6 fr6 r7 fr7 r8 fr8 r9 fr9 r10 fr10 r11 fr11
        go_wp2
        go_meet
        case rel => exact ⟨g11, ra, rb, rc, rd, k1, E, rfl, HEQ, HGB, HRB, HSB, Lib.hid ⟨HWB.out, HK1.out⟩, HGL⟩
    case hb92019 =>
      intro K hK
      go_simp
      obtain ⟨wA, hwA⟩ : ∃ x : World, x = wd.alloc (.cells #[.int .i64 0, .int .i64 0, .int .i64 0, .int .i64 0, .int .i64 0, .int .i64 0, .int .i64 0, .int .i64 0, .slice none 0 0, .int .i64 0, .int .i64 0, .slice none 0 0] 25) := ⟨_, rfl⟩
      rw [← hwA]
      have hb : Below wd.heap.size wd wA := by rw [hwA]; exact (Below.refl _ _).alloc (Nat.le_refl _) _
      have hs := Stay.of (N := (· = cw)) hb
      replace HWK := Lib.hid (HWK.out.keep hb)
      obtain ⟨g11, hg11⟩ : ∃ x, x = wd.heap.size := ⟨_, rfl⟩
      rw [← hg11]
      have hgb : CBox wA g11 25 ⟨⟨0, 0, 0, 0, 0, 0, 0, 0, 0, 0⟩, .slice none 0 0, .slice none 0 0⟩ := by rw [hwA, hg11]; exact CBox.made wd 25 ⟨⟨0, 0, 0, 0, 0, 0, 0, 0, 0, 0⟩, .slice none 0 0, .slice none 0 0⟩
      have HGL := Lib.hid (show W.heap.size ≤ g11 by rw [hg11]; exact HZZ.out)
      replace HSS := Lib.hid (HSS.out.trans hs)
      replace HZZ := Lib.hid (Nat.le_trans HZZ.out hs.size)
      have HG := Lib.hid hgb
      clear hs hb hgb hwA hg11
      clear hHeld
      refine hK.out _ _ (by (try dsimp only); exact HKS.out _ HSS.out) (fun hHeld => ?_)
      clear hK K
      (try simp only [Act.put, List.setIfInBounds_toArray, List.set_cons_zero, List.set_cons_succ])
      refine' tk_call 2 ?hi92015 (by kernel_rfl) ?hr92015
      case hi92015 => (simp only [List.getElem?_toArray, List.getElem?_cons_succ, List.getElem?_cons_zero]; rfl)
      intro K hK
      go_simp
      go_at_call 52
      refine (HCAR.out wA (HS0.out.trans HSS.out)).mono ?_
      rintro e2 w2 ⟨⟨v, rfl, hv⟩, hb⟩
      obtain ⟨ua, ub, uc, ud, rfl, _, _⟩ := hv.form
      have hs := Stay.of (N := (· = cw)) hb
      replace HWK := Lib.hid (HWK.out.keep hb)
      replace HG := Lib.hid (HG.out.stay hs (by have := HGL.out; have := HCW.out; have := HSZ.out; omega))
      replace HSS := Lib.hid (HSS.out.trans hs)
      replace HZZ := Lib.hid (Nat.le_trans HZZ.out hs.size)
      have HU := Lib.hid hv
      clear hs hb hv
      go_wp2_with fail
      clear hHeld
      refine hK.out _ _ (by (try dsimp only); exact HKS.out _ HSS.out) (fun hHeld => ?_)
      clear hK K
      (try simp only [Act.put, List.setIfInBounds_toArray, List.set_cons_zero, List.set_cons_succ])
      refine' tk_call 4 ?hi92016 (by kernel_rfl) ?hr92016
      case hi92016 => (simp only [List.getElem?_toArray, List.getElem?_cons_succ, List.getElem?_cons_zero]; rfl)
      intro K hK
      go_simp
      go_at_call 52
      refine (HDAR.out w2 (HS0.out.trans HSS.out)).mono ?_
      rintro e2 w4 ⟨⟨v, rfl, hv⟩, hb⟩
      obtain ⟨va, vb, vc, vd, rfl, _, _⟩ := hv.form
      have hs := Stay.of (N := (· = cw)) hb
      replace HWK := Lib.hid (HWK.out.keep hb)
      replace HU := Lib.hid (CoVN.stay HU.out hs)
      replace HG := Lib.hid (HG.out.stay hs (by have := HGL.out; have := HCW.out; have := HSZ.out; omega))
      replace HSS := Lib.hid (HSS.out.trans hs)
      replace HZZ := Lib.hid (Nat.le_trans HZZ.out hs.size)
      have HV := Lib.hid hv
      clear hs hb hv
      go_wp2_with fail
      clear hHeld
      refine hK.out _ _ (by (try dsimp only); exact HKS.out _ HSS.out) (fun hHeld => ?_)
      clear hK K
      (try simp only [Act.put, List.setIfInBounds_toArray, List.set_cons_zero, List.set_cons_succ])
      refine' tk_call 7 ?hi92017 (by kernel_rfl) ?hr92017
      case hi92017 => (simp only [List.getElem?_toArray, List.getElem?_cons_succ, List.getElem?_cons_zero]; rfl)
      intro K hK
      go_simp
      go_at_call 63
      refine (HCA.out HTW.out.1 HTW.out.2 w4 _ _ (HS0.out.trans HSS.out) HWK.out HU.out HV.out).mono ?_
      rintro e2 w7 ⟨⟨v, rfl, hv⟩, hs, k1, hk1, hw1⟩
      obtain ⟨ra, rb, rc, rd, rfl, _, _⟩ := hv.form
      replace HWK := Lib.hid hw1
      have HK1 := Lib.hid hk1
      clear HU HV
      have HR := Lib.hid (show CoVN (fun b => Old W.heap.size b ∨ b = g11) w7 _ (compF n (carC c) (carC d)) from CoVN.mono hv fun b _ h => h.elim (fun h => Nat.lt_of_lt_of_le h HZZ.out) fun h => by rw [h]; exact HG.out.lt)
      replace HG := Lib.hid (HG.out.stay hs (by have := HGL.out; have := HCW.out; have := HSZ.out; omega))
      replace HSS := Lib.hid (HSS.out.trans hs)
      replace HZZ := Lib.hid (Nat.le_trans HZZ.out hs.size)
      clear hv hs hk1 hw1
      go_wp2_with fail
      clear hHeld
      refine hK.out _ _ (by (try dsimp only); exact HKS.out _ HSS.out) (fun hHeld => ?_)
      clear hK K
      (try simp only [Act.put, List.setIfInBounds_toArray, List.set_cons_zero, List.set_cons_succ])
      obtain ⟨E, hE⟩ : ∃ E, E = compF n (carC c) (carC d) := ⟨_, rfl⟩
      rw [← hE] at HR ⊢
      have HEQ := Lib.hid hE
      clear hE
      have r0 : w7.cell? ⟨g11, 0, none⟩ = some (.int .i64 0) := HG.out.c0
      have r1 : w7.cell? ⟨g11, 1, none⟩ = some (.int .i64 0) := HG.out.c1
      have r2 : w7.cell? ⟨g11, 2, none⟩ = some (.int .i64 0) := HG.out.c2
      have r3 : w7.cell? ⟨g11, 3, none⟩ = some (.int .i64 0) := HG.out.c3
      have r4 : w7.cell? ⟨g11, 4, none⟩ = some (.int .i64 0) := HG.out.c4
      have r5 : w7.cell? ⟨g11, 5, none⟩ = some (.int .i64 0) := HG.out.c5
      have r6 : w7.cell? ⟨g11, 6, none⟩ = some (.int .i64 0) := HG.out.c6
      have r7 : w7.cell? ⟨g11, 7, none⟩ = some (.int .i64 0) := HG.out.c7
      have r8 : w7.cell? ⟨g11, 8, none⟩ = some (.slice none 0 0) := HG.out.c8
      have r9 : w7.cell? ⟨g11, 9, none⟩ = some (.int .i64 0) := HG.out.c9
      have r10 : w7.cell? ⟨g11, 10, none⟩ = some (.int .i64 0) := HG.out.c10
      have r11 : w7.cell? ⟨g11, 11, none⟩ = some (.slice none 0 0) := HG.out.c11
      have fr0 : w7.frozen? ⟨g11, 0, none⟩ = false := HG.out.fr 0
      have fr1 : w7.frozen? ⟨g11, 1, none⟩ = false := HG.out.fr 1
      have fr2 : w7.frozen? ⟨g11, 2, none⟩ = false := HG.out.fr 2
      have fr3 : w7.frozen? ⟨g11, 3, none⟩ = false := HG.out.fr 3
      have fr4 : w7.frozen? ⟨g11, 4, none⟩ = false := HG.out.fr 4
      have fr5 : w7.frozen? ⟨g11, 5, none⟩ = false := HG.out.fr 5
      have fr6 : w7.frozen? ⟨g11, 6, none⟩ = false := HG.out.fr 6
      have fr7 : w7.frozen? ⟨g11, 7, none⟩ = false := HG.out.fr 7
      have fr8 : w7.frozen? ⟨g11, 8, none⟩ = false := HG.out.fr 8
      have fr9 : w7.frozen? ⟨g11, 9, none⟩ = false := HG.out.fr 9
      have fr10 : w7.frozen? ⟨g11, 10, none⟩ = false := HG.out.fr 10
      have fr11 : w7.frozen? ⟨g11, 11, none⟩ = false := HG.out.fr 11
      refine' tk_call 9 ?hi92018 (by kernel_rfl) ?hr92018
      case hi92018 => (simp only [List.getElem?_toArray, List.getElem?_cons_succ, List.getElem?_cons_zero]; rfl)
      intro K hK
      go_simp
      have HGB := Lib.hid (show CBox (set12 w7 g11 ⟨E.h, .slice ra E.pairs.length rb, .slice rc E.funs.length rd⟩) g11 25 ⟨E.h, .slice ra E.pairs.length rb, .slice rc E.funs.length rd⟩ from CBox.set12 HG.out)
      have HRB := Lib.hid (CoVN.set12 (g := g11) (r' := ⟨E.h, .slice ra E.pairs.length rb, .slice rc E.funs.length rd⟩) HR.out (.inr rfl))
      have HSB := Lib.hid (show Stay (· = cw) W (set12 w7 g11 ⟨E.h, .slice ra E.pairs.length rb, .slice rc E.funs.length rd⟩) from HSS.out.set12 HGL.out)
      have HWB := Lib.hid (show WalkC M cw k1 (set12 w7 g11 ⟨E.h, .slice ra E.pairs.length rb, .slice rc E.funs.length rd⟩) from VarIs.set12 HWK.out (by have := HGL.out; have := HSZ.out; have := HCW.out; omega))
      change K _ (set12 w7 g11 ⟨E.h, .slice ra E.pairs.length rb, .slice rc E.funs.length rd⟩)
      generalize set12 w7 g11 ⟨E.h, .slice ra E.pairs.length rb, .slice rc E.funs.length rd⟩ = wB at HGB HRB HSB HWB ⊢
      clear hHeld
      refine hK.out _ _ (by (try dsimp only); exact HKS.out _ HSB.out) (fun hHeld => ?_)
      clear hK K
      (try simp only [Act.put, List.setIfInBounds_toArray, List.set_cons_zero, List.set_cons_succ])
      refine wpAnyH_done (by kernel_rfl) ?_ _
      refine NoPanic.normal ?_
      clear r0 fr0 r1 fr1 r2 fr2 r3 fr3 r4 fr4 r5 fr5 r6 fr6 r7 fr7 r8 fr8 r9 fr9 r10 fr10 r11 fr11
      go_wp2
      go_meet
      case rel => exact ⟨g11, ra, rb, rc, rd, k1, E, rfl, HEQ, HGB, HRB, HSB, Lib.hid ⟨HWB.out, HK1.out⟩, HGL⟩
  case rest =>
    obtain ⟨g11, ra, rb, rc, rd, k1, E, rfl, HEE, HG, HRC, HSW, HWW, HGL⟩ := hcut
    have HK2S := Lib.hid (show ∀ wx, Stay (· = cw) wc wx → (fun w' => w'.cell? ⟨w.heap.size, 0, none⟩ = some (.int .i64 c.h.f0) ∧ w'.cell? ⟨w.heap.size, 1, none⟩ = some (.int .i64 c.h.f1) ∧ w'.cell? ⟨w.heap.size, 2, none⟩ = some (.int .i64 c.h.f2) ∧ w'.cell? ⟨w.heap.size, 3, none⟩ = some (.int .i64 c.h.f3) ∧ w'.cell? ⟨w.heap.size, 4, none⟩ = some (.int .i64 c.h.f4) ∧ w'.cell? ⟨w.heap.size, 5, none⟩ = some (.int .i64 c.h.f5) ∧ w'.cell? ⟨w.heap.size, 6, none⟩ = some (.int .i64 c.h.pair) ∧ w'.cell? ⟨w.heap.size, 7, none⟩ = some (.int .i64 c.h.pl) ∧ w'.cell? ⟨w.heap.size, 8, none⟩ = some (.slice pa np pc) ∧ w'.cell? ⟨w.heap.size, 9, none⟩ = some (.int .i64 c.h.fn) ∧ w'.cell? ⟨w.heap.size, 10, none⟩ = some (.int .i64 c.h.fl) ∧ w'.cell? ⟨w.heap.size, 11, none⟩ = some (.slice fa nf fc) ∧ w'.cell? ⟨(w.heap.size + 1), 0, none⟩ = some (.int .i64 d.h.f0) ∧ w'.cell? ⟨(w.heap.size + 1), 1, none⟩ = some (.int .i64 d.h.f1) ∧ w'.cell? ⟨(w.heap.size + 1), 2, none⟩ = some (.int .i64 d.h.f2) ∧ w'.cell? ⟨(w.heap.size + 1), 3, none⟩ = some (.int .i64 d.h.f3) ∧ w'.cell? ⟨(w.heap.size + 1), 4, none⟩ = some (.int .i64 d.h.f4) ∧ w'.cell? ⟨(w.heap.size + 1), 5, none⟩ = some (.int .i64 d.h.f5) ∧ w'.cell? ⟨(w.heap.size + 1), 6, none⟩ = some (.int .i64 d.h.pair) ∧ w'.cell? ⟨(w.heap.size + 1), 7, none⟩ = some (.int .i64 d.h.pl) ∧ w'.cell? ⟨(w.heap.size + 1), 8, none⟩ = some (.slice qa mp qc) ∧ w'.cell? ⟨(w.heap.size + 1), 9, none⟩ = some (.int .i64 d.h.fn) ∧ w'.cell? ⟨(w.heap.size + 1), 10, none⟩ = some (.int .i64 d.h.fl) ∧ w'.cell? ⟨(w.heap.size + 1), 11, none⟩ = some (.slice ga mf gc) ∧ w'.cell? ⟨g11, 0, none⟩ = some (.int .i64 E.h.f0) ∧ w'.cell? ⟨g11, 1, none⟩ = some (.int .i64 E.h.f1) ∧ w'.cell? ⟨g11, 2, none⟩ = some (.int .i64 E.h.f2) ∧ w'.cell? ⟨g11, 3, none⟩ = some (.int .i64 E.h.f3) ∧ w'.cell? ⟨g11, 4, none⟩ = some (.int .i64 E.h.f4) ∧ w'.cell? ⟨g11, 5, none⟩ = some (.int .i64 E.h.f5) ∧ w'.cell? ⟨g11, 6, none⟩ = some (.int .i64 E.h.pair) ∧ w'.cell? ⟨g11, 7, none⟩ = some (.int .i64 E.h.pl) ∧ w'.cell? ⟨g11, 8, none⟩ = some (.slice ra E.pairs.length rb) ∧ w'.cell? ⟨g11, 9, none⟩ = some (.int .i64 E.h.fn) ∧ w'.cell? ⟨g11, 10, none⟩ = some (.int .i64 E.h.fl) ∧ w'.cell? ⟨g11, 11, none⟩ = some (.slice rc E.funs.length rd)) wx from fun wx hs => by
      have h1 := (HXC.out.stay HSW.out (by have := HCW.out; omega)).stay hs (by have := HCW.out; omega)
      have h2 := (HXD.out.stay HSW.out (by have := HCW.out; omega)).stay hs (by have := HCW.out; omega)
      have h3 := HG.out.stay hs (by have := HGL.out; have := HCW.out; have := HSZ.out; omega)
      exact ⟨h1.c0, h1.c1, h1.c2, h1.c3, h1.c4, h1.c5, h1.c6, h1.c7, h1.c8, h1.c9, h1.c10, h1.c11, h2.c0, h2.c1, h2.c2, h2.c3, h2.c4, h2.c5, h2.c6, h2.c7, h2.c8, h2.c9, h2.c10, h2.c11, h3.c0, h3.c1, h3.c2, h3.c3, h3.c4, h3.c5, h3.c6, h3.c7, h3.c8, h3.c9, h3.c10, h3.c11⟩)
    have HBZ := Lib.hid (show w.heap.size ≤ wc.heap.size from Nat.le_trans HB.out.size HSW.out.size)
    clear x0 y0 x1 y1 x2 y2 x3 y3 x4 y4 x5 y5 x6 y6 x7 y7 x8 y8 x9 y9 x10 y10 x11 y11
    have x0 : wc.cell? ⟨w.heap.size, 0, none⟩ = some (.int .i64 c.h.f0) := (HXC.out.stay HSW.out (by have := HCW.out; omega)).c0
    have x1 : wc.cell? ⟨w.heap.size, 1, none⟩ = some (.int .i64 c.h.f1) := (HXC.out.stay HSW.out (by have := HCW.out; omega)).c1
    have x2 : wc.cell? ⟨w.heap.size, 2, none⟩ = some (.int .i64 c.h.f2) := (HXC.out.stay HSW.out (by have := HCW.out; omega)).c2
    have x3 : wc.cell? ⟨w.heap.size, 3, none⟩ = some (.int .i64 c.h.f3) := (HXC.out.stay HSW.out (by have := HCW.out; omega)).c3
    have x4 : wc.cell? ⟨w.heap.size, 4, none⟩ = some (.int .i64 c.h.f4) := (HXC.out.stay HSW.out (by have := HCW.out; omega)).c4
    have x5 : wc.cell? ⟨w.heap.size, 5, none⟩ = some (.int .i64 c.h.f5) := (HXC.out.stay HSW.out (by have := HCW.out; omega)).c5
    have x6 : wc.cell? ⟨w.heap.size, 6, none⟩ = some (.int .i64 c.h.pair) := (HXC.out.stay HSW.out (by have := HCW.out; omega)).c6
    have x7 : wc.cell? ⟨w.heap.size, 7, none⟩ = some (.int .i64 c.h.pl) := (HXC.out.stay HSW.out (by have := HCW.out; omega)).c7
    have x8 : wc.cell? ⟨w.heap.size, 8, none⟩ = some (.slice pa np pc) := (HXC.out.stay HSW.out (by have := HCW.out; omega)).c8
    have x9 : wc.cell? ⟨w.heap.size, 9, none⟩ = some (.int .i64 c.h.fn) := (HXC.out.stay HSW.out (by have := HCW.out; omega)).c9
    have x10 : wc.cell? ⟨w.heap.size, 10, none⟩ = some (.int .i64 c.h.fl) := (HXC.out.stay HSW.out (by have := HCW.out; omega)).c10
    have x11 : wc.cell? ⟨w.heap.size, 11, none⟩ = some (.slice fa nf fc) := (HXC.out.stay HSW.out (by have := HCW.out; omega)).c11
    have y0 : wc.cell? ⟨(w.heap.size + 1), 0, none⟩ = some (.int .i64 d.h.f0) := (HXD.out.stay HSW.out (by have := HCW.out; omega)).c0
    have y1 : wc.cell? ⟨(w.heap.size + 1), 1, none⟩ = some (.int .i64 d.h.f1) := (HXD.out.stay HSW.out (by have := HCW.out; omega)).c1
    have y2 : wc.cell? ⟨(w.heap.size + 1), 2, none⟩ = some (.int .i64 d.h.f2) := (HXD.out.stay HSW.out (by have := HCW.out; omega)).c2
    have y3 : wc.cell? ⟨(w.heap.size + 1), 3, none⟩ = some (.int .i64 d.h.f3) := (HXD.out.stay HSW.out (by have := HCW.out; omega)).c3
    have y4 : wc.cell? ⟨(w.heap.size + 1), 4, none⟩ = some (.int .i64 d.h.f4) := (HXD.out.stay HSW.out (by have := HCW.out; omega)).c4
    have y5 : wc.cell? ⟨(w.heap.size + 1), 5, none⟩ = some (.int .i64 d.h.f5) := (HXD.out.stay HSW.out (by have := HCW.out; omega)).c5
    have y6 : wc.cell? ⟨(w.heap.size + 1), 6, none⟩ = some (.int .i64 d.h.pair) := (HXD.out.stay HSW.out (by have := HCW.out; omega)).c6
    have y7 : wc.cell? ⟨(w.heap.size + 1), 7, none⟩ = some (.int .i64 d.h.pl) := (HXD.out.stay HSW.out (by have := HCW.out; omega)).c7
    have y8 : wc.cell? ⟨(w.heap.size + 1), 8, none⟩ = some (.slice qa mp qc) := (HXD.out.stay HSW.out (by have := HCW.out; omega)).c8
    have y9 : wc.cell? ⟨(w.heap.size + 1), 9, none⟩ = some (.int .i64 d.h.fn) := (HXD.out.stay HSW.out (by have := HCW.out; omega)).c9
    have y10 : wc.cell? ⟨(w.heap.size + 1), 10, none⟩ = some (.int .i64 d.h.fl) := (HXD.out.stay HSW.out (by have := HCW.out; omega)).c10
    have y11 : wc.cell? ⟨(w.heap.size + 1), 11, none⟩ = some (.slice ga mf gc) := (HXD.out.stay HSW.out (by have := HCW.out; omega)).c11
    by_cases a5 : c.h.pair = 3
    · have b5 : (c.h.pair == 3) = true := by rw [a5]; rfl
      by_cases a6 : d.h.pair = 3
      · have b6 : (d.h.pair == 3) = true := by rw [a6]; rfl
        have HPX := Lib.hid (show P = (3, eithC c.h.pl d.h.pl, [compF n (carC c) (carC d)]) by rw [HP.out, if_neg HN1.out, if_neg HN2.out, if_pos ⟨a5, a6⟩])
        clear a5 a6
        go_upto_region 7 with fail
        (try dsimp only [List.append])
        refine wp_region_noPanic ?_
        refine wp_region_held_drew (S := (fun w' => w'.cell? ⟨w.heap.size, 0, none⟩ = some (.int .i64 c.h.f0) ∧ w'.cell? ⟨w.heap.size, 1, none⟩ = some (.int .i64 c.h.f1) ∧ w'.cell? ⟨w.heap.size, 2, none⟩ = some (.int .i64 c.h.f2) ∧ w'.cell? ⟨w.heap.size, 3, none⟩ = some (.int .i64 c.h.f3) ∧ w'.cell? ⟨w.heap.size, 4, none⟩ = some (.int .i64 c.h.f4) ∧ w'.cell? ⟨w.heap.size, 5, none⟩ = some (.int .i64 c.h.f5) ∧ w'.cell? ⟨w.heap.size, 6, none⟩ = some (.int .i64 c.h.pair) ∧ w'.cell? ⟨w.heap.size, 7, none⟩ = some (.int .i64 c.h.pl) ∧ w'.cell? ⟨w.heap.size, 8, none⟩ = some (.slice pa np pc) ∧ w'.cell? ⟨w.heap.size, 9, none⟩ = some (.int .i64 c.h.fn) ∧ w'.cell? ⟨w.heap.size, 10, none⟩ = some (.int .i64 c.h.fl) ∧ w'.cell? ⟨w.heap.size, 11, none⟩ = some (.slice fa nf fc) ∧ w'.cell? ⟨(w.heap.size + 1), 0, none⟩ = some (.int .i64 d.h.f0) ∧ w'.cell? ⟨(w.heap.size + 1), 1, none⟩ = some (.int .i64 d.h.f1) ∧ w'.cell? ⟨(w.heap.size + 1), 2, none⟩ = some (.int .i64 d.h.f2) ∧ w'.cell? ⟨(w.heap.size + 1), 3, none⟩ = some (.int .i64 d.h.f3) ∧ w'.cell? ⟨(w.heap.size + 1), 4, none⟩ = some (.int .i64 d.h.f4) ∧ w'.cell? ⟨(w.heap.size + 1), 5, none⟩ = some (.int .i64 d.h.f5) ∧ w'.cell? ⟨(w.heap.size + 1), 6, none⟩ = some (.int .i64 d.h.pair) ∧ w'.cell? ⟨(w.heap.size + 1), 7, none⟩ = some (.int .i64 d.h.pl) ∧ w'.cell? ⟨(w.heap.size + 1), 8, none⟩ = some (.slice qa mp qc) ∧ w'.cell? ⟨(w.heap.size + 1), 9, none⟩ = some (.int .i64 d.h.fn) ∧ w'.cell? ⟨(w.heap.size + 1), 10, none⟩ = some (.int .i64 d.h.fl) ∧ w'.cell? ⟨(w.heap.size + 1), 11, none⟩ = some (.slice ga mf gc) ∧ w'.cell? ⟨g11, 0, none⟩ = some (.int .i64 E.h.f0) ∧ w'.cell? ⟨g11, 1, none⟩ = some (.int .i64 E.h.f1) ∧ w'.cell? ⟨g11, 2, none⟩ = some (.int .i64 E.h.f2) ∧ w'.cell? ⟨g11, 3, none⟩ = some (.int .i64 E.h.f3) ∧ w'.cell? ⟨g11, 4, none⟩ = some (.int .i64 E.h.f4) ∧ w'.cell? ⟨g11, 5, none⟩ = some (.int .i64 E.h.f5) ∧ w'.cell? ⟨g11, 6, none⟩ = some (.int .i64 E.h.pair) ∧ w'.cell? ⟨g11, 7, none⟩ = some (.int .i64 E.h.pl) ∧ w'.cell? ⟨g11, 8, none⟩ = some (.slice ra E.pairs.length rb) ∧ w'.cell? ⟨g11, 9, none⟩ = some (.int .i64 E.h.fn) ∧ w'.cell? ⟨g11, 10, none⟩ = some (.int .i64 E.h.fl) ∧ w'.cell? ⟨g11, 11, none⟩ = some (.slice rc E.funs.length rd))) (by kernel_rfl) (by (try dsimp only); exact HK2S.out _ (Stay.of (Below.refl wc.heap.size wc).drew)) (fun hHeld => ?_)
        have hdr : Below wc.heap.size wc wc.drew := (Below.refl _ _).drew
        have HSV := Lib.hid (Stay.of (N := (· = cw)) hdr)
        have HR0 := Lib.hid (HRC.out.below hdr)
        have HWK1 := Lib.hid (HWW.out.1.keep hdr)
        have HWZ := Lib.hid hdr.size
        clear hdr
        generalize wc.drew = wd at hHeld HSV HR0 HWK1 HWZ ⊢
        refine' tk_any 0 64 (v := _) ?hi92020 ?hd92020 (by kernel_rfl) (by kernel_rfl) (by kernel_rfl) (fun _ _ _ h => h) ?hy92020 hHeld ?hr92020
        case hi92020 => (simp only [List.getElem?_toArray, List.getElem?_cons_zero]; rfl)
        case hd92020 => rfl
        case hy92020 =>
          refine' Or.inl ⟨?hw92020, ?hx92020⟩
          case hw92020 => rfl
          case hx92020 => (intro w hSw; (try dsimp only at hSw); go_simp; (try with_reducible rfl))
        (try simp only [Act.put, List.setIfInBounds_toArray, List.set_cons_zero, List.set_cons_succ])
        refine' tk_any 1 65 (v := _) ?hi92021 ?hd92021 (by kernel_rfl) (by kernel_rfl) (by kernel_rfl) (fun _ _ _ h => h) ?hy92021 hHeld ?hr92021
        case hi92021 => (simp only [List.getElem?_toArray, List.getElem?_cons_succ, List.getElem?_cons_zero]; rfl)
        case hd92021 => rfl
        case hy92021 =>
          refine' Or.inl ⟨?hw92021, ?hx92021⟩
          case hw92021 => rfl
          case hx92021 => (intro w hSw; (try dsimp only at hSw); go_simp; (try with_reducible rfl))
        (try simp only [Act.put, List.setIfInBounds_toArray, List.set_cons_zero, List.set_cons_succ])
        refine' tk_any 2 66 (v := _) ?hi92022 ?hd92022 (by kernel_rfl) (by kernel_rfl) (by kernel_rfl) (fun _ _ _ h => h) ?hy92022 hHeld ?hr92022
        case hi92022 => (simp only [List.getElem?_toArray, List.getElem?_cons_succ, List.getElem?_cons_zero]; rfl)
        case hd92022 => rfl
        case hy92022 =>
          refine' Or.inl ⟨?hw92022, ?hx92022⟩
          case hw92022 => rfl
          case hx92022 => (intro w hSw; (try dsimp only at hSw); go_simp; (try with_reducible rfl))
        (try simp only [Act.put, List.setIfInBounds_toArray, List.set_cons_zero, List.set_cons_succ])
        refine' tk_any 3 67 (v := _) ?hi92023 ?hd92023 (by kernel_rfl) (by kernel_rfl) (by kernel_rfl) (fun _ _ _ h => h) ?hy92023 hHeld ?hr92023
        case hi92023 => (simp only [List.getElem?_toArray, List.getElem?_cons_succ, List.getElem?_cons_zero]; rfl)
        case hd92023 => rfl
        case hy92023 =>
          refine' Or.inl ⟨?hw92023, ?hx92023⟩
          case hw92023 => rfl
          case hx92023 => (intro w hSw; (try dsimp only at hSw); go_simp; (try with_reducible rfl))
        (try simp only [Act.put, List.setIfInBounds_toArray, List.set_cons_zero, List.set_cons_succ])
        refine' tk_any 6 70 (v := _) ?hi92024 ?hd92024 (by kernel_rfl) (by kernel_rfl) (by kernel_rfl) (fun _ _ _ h => h) ?hy92024 hHeld ?hr92024
        case hi92024 => (simp only [List.getElem?_toArray, List.getElem?_cons_succ, List.getElem?_cons_zero]; rfl)
        case hd92024 => rfl
        case hy92024 =>
          refine' Or.inl ⟨?hw92024, ?hx92024⟩
          case hw92024 => rfl
          case hx92024 => (intro w hSw; (try dsimp only at hSw); go_simp; (try with_reducible rfl))
        (try simp only [Act.put, List.setIfInBounds_toArray, List.set_cons_zero, List.set_cons_succ])
        refine' tk_two 4 7 ?hi92039 ?hj92039 (by kernel_rfl) ?ha92039 ?hb92039
        case hi92039 => (simp only [List.getElem?_toArray, List.getElem?_cons_succ, List.getElem?_cons_zero]; rfl)
        case hj92039 => (simp only [List.getElem?_toArray, List.getElem?_cons_succ, List.getElem?_cons_zero]; rfl)
        case ha92039 =>
          intro K hK
          go_simp
          obtain ⟨wi, h4⟩ : ∃ x : World, x = wd.alloc (.cells #[.int .i64 c.h.pl, .int .i64 d.h.pl] 3) := ⟨_, rfl⟩
          rw [← h4]
          have hb : Below wd.heap.size wd wi := by rw [h4]; exact (Below.refl _ _).alloc (Nat.le_refl _) _
          obtain ⟨gi, hgi⟩ : ∃ x, x = wd.heap.size := ⟨_, rfl⟩
          have HI := Lib.hid (show wi.heap[gi]? = some (.cells #[.int .i64 c.h.pl, .int .i64 d.h.pl] 3 (0, 0)) by rw [h4, hgi]; exact heap_alloc_new _ _)
          rw [← hgi]
          replace HSV := Lib.hid (HSV.out.then hb)
          replace HR0 := Lib.hid (HR0.out.below hb)
          replace HWK1 := Lib.hid (HWK1.out.keep hb)
          replace HWZ := Lib.hid (Nat.le_trans HWZ.out hb.size)
          clear hb h4 hgi
          clear hHeld
          refine hK.out _ _ (by (try dsimp only); exact HK2S.out _ HSV.out) (fun hHeld => ?_)
          clear hK K
          (try simp only [Act.put, List.setIfInBounds_toArray, List.set_cons_zero, List.set_cons_succ])
          refine' tk_two 5 7 ?hi92033 ?hj92033 (by kernel_rfl) ?ha92033 ?hb92033
          case hi92033 => (simp only [List.getElem?_toArray, List.getElem?_cons_succ, List.getElem?_cons_zero]; rfl)
          case hj92033 => (simp only [List.getElem?_toArray, List.getElem?_cons_succ, List.getElem?_cons_zero]; rfl)
          case ha92033 =>
            intro K hK
            go_simp
            go_at_call 87
            refine (or_p c.h.pl d.h.pl gi wi (Lib.cell_of_heap HI.out 0) (Lib.cell_of_heap HI.out 1)).mono ?_
            rintro e3 w5 ⟨rfl, rfl⟩
            go_wp2_with fail
            clear hHeld
            refine hK.out _ _ (by (try dsimp only); exact HK2S.out _ HSV.out) (fun hHeld => ?_)
            clear hK K
            (try simp only [Act.put, List.setIfInBounds_toArray, List.set_cons_zero, List.set_cons_succ])
            refine' tk_any 8 8 (v := _) ?hi92025 ?hd92025 (by kernel_rfl) (by kernel_rfl) (by kernel_rfl) (fun _ _ _ h => h) ?hy92025 hHeld ?hr92025
            case hi92025 => (simp only [List.getElem?_toArray, List.getElem?_cons_succ, List.getElem?_cons_zero]; rfl)
            case hd92025 => rfl
            case hy92025 =>
              refine' Or.inl ⟨?hw92025, ?hx92025⟩
              case hw92025 => rfl
              case hx92025 => (intro w hSw; (try dsimp only at hSw); go_simp; (try with_reducible rfl))
            (try simp only [Act.put, List.setIfInBounds_toArray, List.set_cons_zero, List.set_cons_succ])
            refine' tk_any 9 9 (v := _) ?hi92026 ?hd92026 (by kernel_rfl) (by kernel_rfl) (by kernel_rfl) (fun _ _ _ h => h) ?hy92026 hHeld ?hr92026
            case hi92026 => (simp only [List.getElem?_toArray, List.getElem?_cons_succ, List.getElem?_cons_zero]; rfl)
            case hd92026 => rfl
            case hy92026 =>
              refine' Or.inl ⟨?hw92026, ?hx92026⟩
              case hw92026 => rfl
              case hx92026 => (intro w hSw; (try dsimp only at hSw); go_simp; (try with_reducible rfl))
            (try simp only [Act.put, List.setIfInBounds_toArray, List.set_cons_zero, List.set_cons_succ])
            refine' tk_call 7 ?hi92027 (by kernel_rfl) ?hr92027
            case hi92027 => (simp only [List.getElem?_toArray, List.getElem?_cons_succ, List.getElem?_cons_zero]; rfl)
            intro K hK
            go_simp
            obtain ⟨wr, h7⟩ : ∃ x : World, x = w5.alloc (.cells #[.int .i64 E.h.f0, .int .i64 E.h.f1, .int .i64 E.h.f2, .int .i64 E.h.f3, .int .i64 E.h.f4, .int .i64 E.h.f5, .int .i64 E.h.pair, .int .i64 E.h.pl, .slice ra E.pairs.length rb, .int .i64 E.h.fn, .int .i64 E.h.fl, .slice rc E.funs.length rd] 25) := ⟨_, rfl⟩
            rw [← h7]
            have hb : Below w5.heap.size w5 wr := by rw [h7]; exact (Below.refl _ _).alloc (Nat.le_refl _) _
            obtain ⟨gr, hgr⟩ : ∃ x, x = w5.heap.size := ⟨_, rfl⟩
            have HRW := Lib.hid (show CoS wr (Lc (Old w.heap.size) wr) (.slice (some ⟨gr, 0, none⟩) 1 1) [E] by rw [h7, hgr]; exact CoS.one (r := ⟨E.h, .slice ra E.pairs.length rb, .slice rc E.funs.length rd⟩) (N := Old w.heap.size) (fun b h => by have h1 := HBZ.out; have h2 := HWZ.out; have h3 : b < w.heap.size := h; omega) (CoVN.raw (h := E.h) (CoVN.mono HR0.out fun b _ h => .inl (Nat.lt_of_lt_of_le h HB.out.size))))
            rw [← hgr]
            replace HSV := Lib.hid (HSV.out.then hb)
            replace HR0 := Lib.hid (HR0.out.below hb)
            replace HWK1 := Lib.hid (HWK1.out.keep hb)
            replace HWZ := Lib.hid (Nat.le_trans HWZ.out hb.size)
            replace HI := Lib.hid ((hb.block gi (Array.getElem?_eq_some_iff.1 HI.out).1).trans HI.out)
            clear hb h7 hgr
            clear hHeld
            refine hK.out _ _ (by (try dsimp only); exact HK2S.out _ HSV.out) (fun hHeld => ?_)
            clear hK K
            (try simp only [Act.put, List.setIfInBounds_toArray, List.set_cons_zero, List.set_cons_succ])
            refine' tk_any 10 10 (v := _) ?hi92028 ?hd92028 (by kernel_rfl) (by kernel_rfl) (by kernel_rfl) (fun _ _ _ h => h) ?hy92028 hHeld ?hr92028
            case hi92028 => (simp only [List.getElem?_toArray, List.getElem?_cons_succ, List.getElem?_cons_zero]; rfl)
            case hd92028 => rfl
            case hy92028 =>
              refine' Or.inl ⟨?hw92028, ?hx92028⟩
              case hw92028 => rfl
              case hx92028 => (intro w hSw; (try dsimp only at hSw); go_simp; (try with_reducible rfl))
            (try simp only [Act.put, List.setIfInBounds_toArray, List.set_cons_zero, List.set_cons_succ])
            refine wpAnyH_done (by kernel_rfl) ?_ _
            refine NoPanic.normal ?_
            go_wp2
            refine bodyPost_ret (v := .tuple #[.int .i64 3, .int .i64 (eithC c.h.pl d.h.pl), .slice (some ⟨gr, 0, none⟩) 1 1]) ?_ ?_ ?_
            · simp [results, Tryd.results88, go_sem]
            · rfl
            · refine ⟨⟨_, by rw [HPX.out], ?_⟩, HS.out.trans (HSW.out.trans HSV.out), k1, by have h1 := HWW.out.2; have h2 := HCA2.out HTW.out.1 HTW.out.2; omega, HWK1.out⟩
              rw [HPX.out, ← HEE.out]; exact HRW.out
          case hb92033 =>
            intro K hK
            go_simp
            obtain ⟨wr, h7⟩ : ∃ x : World, x = wi.alloc (.cells #[.int .i64 E.h.f0, .int .i64 E.h.f1, .int .i64 E.h.f2, .int .i64 E.h.f3, .int .i64 E.h.f4, .int .i64 E.h.f5, .int .i64 E.h.pair, .int .i64 E.h.pl, .slice ra E.pairs.length rb, .int .i64 E.h.fn, .int .i64 E.h.fl, .slice rc E.funs.length rd] 25) := ⟨_, rfl⟩
            rw [← h7]
            have hb : Below wi.heap.size wi wr := by rw [h7]; exact (Below.refl _ _).alloc (Nat.le_refl _) _
            obtain ⟨gr, hgr⟩ : ∃ x, x = wi.heap.size := ⟨_, rfl⟩
            have HRW := Lib.hid (show CoS wr (Lc (Old w.heap.size) wr) (.slice (some ⟨gr, 0, none⟩) 1 1) [E] by rw [h7, hgr]; exact CoS.one (r := ⟨E.h, .slice ra E.pairs.length rb, .slice rc E.funs.length rd⟩) (N := Old w.heap.size) (fun b h => by have h1 := HBZ.out; have h2 := HWZ.out; have h3 : b < w.heap.size := h; omega) (CoVN.raw (h := E.h) (CoVN.mono HR0.out fun b _ h => .inl (Nat.lt_of_lt_of_le h HB.out.size))))
            rw [← hgr]
            replace HSV := Lib.hid (HSV.out.then hb)
            replace HR0 := Lib.hid (HR0.out.below hb)
            replace HWK1 := Lib.hid (HWK1.out.keep hb)
            replace HWZ := Lib.hid (Nat.le_trans HWZ.out hb.size)
            replace HI := Lib.hid ((hb.block gi (Array.getElem?_eq_some_iff.1 HI.out).1).trans HI.out)
            clear hb h7 hgr
            clear hHeld
            refine hK.out _ _ (by (try dsimp only); exact HK2S.out _ HSV.out) (fun hHeld => ?_)
            clear hK K
            (try simp only [Act.put, List.setIfInBounds_toArray, List.set_cons_zero, List.set_cons_succ])
            refine' tk_call 5 ?hi92029 (by kernel_rfl) ?hr92029
            case hi92029 => (simp only [List.getElem?_toArray, List.getElem?_cons_succ, List.getElem?_cons_zero]; rfl)
            intro K hK
            go_simp
            go_at_call 87
            refine (or_p c.h.pl d.h.pl gi wr (Lib.cell_of_heap HI.out 0) (Lib.cell_of_heap HI.out 1)).mono ?_
            rintro e3 w5 ⟨rfl, rfl⟩
            go_wp2_with fail
            clear hHeld
            refine hK.out _ _ (by (try dsimp only); exact HK2S.out _ HSV.out) (fun hHeld => ?_)
            clear hK K
            (try simp only [Act.put, List.setIfInBounds_toArray, List.set_cons_zero, List.set_cons_succ])
            refine' tk_any 8 8 (v := _) ?hi92030 ?hd92030 (by kernel_rfl) (by kernel_rfl) (by kernel_rfl) (fun _ _ _ h => h) ?hy92030 hHeld ?hr92030
            case hi92030 => (simp only [List.getElem?_toArray, List.getElem?_cons_succ, List.getElem?_cons_zero]; rfl)
            case hd92030 => rfl
            case hy92030 =>
              refine' Or.inl ⟨?hw92030, ?hx92030⟩
              case hw92030 => rfl
              case hx92030 => (intro w hSw; (try dsimp only at hSw); go_simp; (try with_reducible rfl))
            (try simp only [Act.put, List.setIfInBounds_toArray, List.set_cons_zero, List.set_cons_succ])
            refine' tk_any 9 9 (v := _) ?hi92031 ?hd92031 (by kernel_rfl) (by kernel_rfl) (by kernel_rfl) (fun _ _ _ h => h) ?hy92031 hHeld ?hr92031
            case hi92031 => (simp only [List.getElem?_toArray, List.getElem?_cons_succ, List.getElem?_cons_zero]; rfl)
            case hd92031 => rfl
            case hy92031 =>
              refine' Or.inl ⟨?hw92031, ?hx92031⟩
              case hw92031 => rfl
              case hx92031 => (intro w hSw; (try dsimp only at hSw); go_simp; (try with_reducible rfl))
            (try simp only [Act.put, List.setIfInBounds_toArray, List.set_cons_zero, List.set_cons_succ])
            refine' tk_any 10 10 (v := _) ?hi92032 ?hd92032 (by kernel_rfl) (by kernel_rfl) (by kernel_rfl) (fun _ _ _ h => h) ?hy92032 hHeld ?hr92032
            case hi92032 => (simp only [List.getElem?_toArray, List.getElem?_cons_succ, List.getElem?_cons_zero]; rfl)
            case hd92032 => rfl
            case hy92032 =>
              refine' Or.inl ⟨?hw92032, ?hx92032⟩
              case hw92032 => rfl
              case hx92032 => (intro w hSw; (try dsimp only at hSw); go_simp; (try with_reducible rfl))
            (try simp only [Act.put, List.setIfInBounds_toArray, List.set_cons_zero, List.set_cons_succ])
            refine wpAnyH_done (by kernel_rfl) ?_ _
            refine NoPanic.normal ?_
            go_wp2
            refine bodyPost_ret (v := .tuple #[.int .i64 3, .int .i64 (eithC c.h.pl d.h.pl), .slice (some ⟨gr, 0, none⟩) 1 1]) ?_ ?_ ?_
            · simp [results, Tryd.results88, go_sem]
            · rfl
            · refine ⟨⟨_, by rw [HPX.out], ?_⟩, HS.out.trans (HSW.out.trans HSV.out), k1, by have h1 := HWW.out.2; have h2 := HCA2.out HTW.out.1 HTW.out.2; omega, HWK1.out⟩
              rw [HPX.out, ← HEE.out]; exact HRW.out
        case hb92039 =>
          intro K hK
          go_simp
          obtain ⟨wr, h7⟩ : ∃ x : World, x = wd.alloc (.cells #[.int .i64 E.h.f0, .int .i64 E.h.f1, .int .i64 E.h.f2, .int .i64 E.h.f3, .int .i64 E.h.f4, .int .i64 E.h.f5, .int .i64 E.h.pair, .int .i64 E.h.pl, .slice ra E.pairs.length rb, .int .i64 E.h.fn, .int .i64 E.h.fl, .slice rc E.funs.length rd] 25) := ⟨_, rfl⟩
          rw [← h7]
          have hb : Below wd.heap.size wd wr := by rw [h7]; exact (Below.refl _ _).alloc (Nat.le_refl _) _
          obtain ⟨gr, hgr⟩ : ∃ x, x = wd.heap.size := ⟨_, rfl⟩
          have HRW := Lib.hid (show CoS wr (Lc (Old w.heap.size) wr) (.slice (some ⟨gr, 0, none⟩) 1 1) [E] by rw [h7, hgr]; exact CoS.one (r := ⟨E.h, .slice ra E.pairs.length rb, .slice rc E.funs.length rd⟩) (N := Old w.heap.size) (fun b h => by have h1 := HBZ.out; have h2 := HWZ.out; have h3 : b < w.heap.size := h; omega) (CoVN.raw (h := E.h) (CoVN.mono HR0.out fun b _ h => .inl (Nat.lt_of_lt_of_le h HB.out.size))))
          rw [← hgr]
          replace HSV := Lib.hid (HSV.out.then hb)
          replace HR0 := Lib.hid (HR0.out.below hb)
          replace HWK1 := Lib.hid (HWK1.out.keep hb)
          replace HWZ := Lib.hid (Nat.le_trans HWZ.out hb.size)
          clear hb h7 hgr
          clear hHeld
          refine hK.out _ _ (by (try dsimp only); exact HK2S.out _ HSV.out) (fun hHeld => ?_)
          clear hK K
          (try simp only [Act.put, List.setIfInBounds_toArray, List.set_cons_zero, List.set_cons_succ])
          refine' tk_call 4 ?hi92034 (by kernel_rfl) ?hr92034
          case hi92034 => (simp only [List.getElem?_toArray, List.getElem?_cons_succ, List.getElem?_cons_zero]; rfl)
          intro K hK
          go_simp
          obtain ⟨wi, h4⟩ : ∃ x : World, x = wr.alloc (.cells #[.int .i64 c.h.pl, .int .i64 d.h.pl] 3) := ⟨_, rfl⟩
          rw [← h4]
          have hb : Below wr.heap.size wr wi := by rw [h4]; exact (Below.refl _ _).alloc (Nat.le_refl _) _
          obtain ⟨gi, hgi⟩ : ∃ x, x = wr.heap.size := ⟨_, rfl⟩
          have HI := Lib.hid (show wi.heap[gi]? = some (.cells #[.int .i64 c.h.pl, .int .i64 d.h.pl] 3 (0, 0)) by rw [h4, hgi]; exact heap_alloc_new _ _)
          rw [← hgi]
          replace HSV := Lib.hid (HSV.out.then hb)
          replace HR0 := Lib.hid (HR0.out.below hb)
          replace HWK1 := Lib.hid (HWK1.out.keep hb)
          replace HWZ := Lib.hid (Nat.le_trans HWZ.out hb.size)
          replace HRW := Lib.hid (CoSN.below HRW.out hb)
          clear hb h4 hgi
          clear hHeld
          refine hK.out _ _ (by (try dsimp only); exact HK2S.out _ HSV.out) (fun hHeld => ?_)
          clear hK K
          (try simp only [Act.put, List.setIfInBounds_toArray, List.set_cons_zero, List.set_cons_succ])
          refine' tk_call 5 ?hi92035 (by kernel_rfl) ?hr92035
          case hi92035 => (simp only [List.getElem?_toArray, List.getElem?_cons_succ, List.getElem?_cons_zero]; rfl)
          intro K hK
          go_simp
          go_at_call 87
          refine (or_p c.h.pl d.h.pl gi wi (Lib.cell_of_heap HI.out 0) (Lib.cell_of_heap HI.out 1)).mono ?_
          rintro e3 w5 ⟨rfl, rfl⟩
          go_wp2_with fail
          clear hHeld
          refine hK.out _ _ (by (try dsimp only); exact HK2S.out _ HSV.out) (fun hHeld => ?_)
          clear hK K
          (try simp only [Act.put, List.setIfInBounds_toArray, List.set_cons_zero, List.set_cons_succ])
          refine' tk_any 8 8 (v := _) ?hi92036 ?hd92036 (by kernel_rfl) (by kernel_rfl) (by kernel_rfl) (fun _ _ _ h => h) ?hy92036 hHeld ?hr92036
          case hi92036 => (simp only [List.getElem?_toArray, List.getElem?_cons_succ, List.getElem?_cons_zero]; rfl)
          case hd92036 => rfl
          case hy92036 =>
            refine' Or.inl ⟨?hw92036, ?hx92036⟩
            case hw92036 => rfl
            case hx92036 => (intro w hSw; (try dsimp only at hSw); go_simp; (try with_reducible rfl))
          (try simp only [Act.put, List.setIfInBounds_toArray, List.set_cons_zero, List.set_cons_succ])
          refine' tk_any 9 9 (v := _) ?hi92037 ?hd92037 (by kernel_rfl) (by kernel_rfl) (by kernel_rfl) (fun _ _ _ h => h) ?hy92037 hHeld ?hr92037
          case hi92037 => (simp only [List.getElem?_toArray, List.getElem?_cons_succ, List.getElem?_cons_zero]; rfl)
          case hd92037 => rfl
          case hy92037 =>
            refine' Or.inl ⟨?hw92037, ?hx92037⟩
            case hw92037 => rfl
            case hx92037 => (intro w hSw; (try dsimp only at hSw); go_simp; (try with_reducible rfl))
          (try simp only [Act.put, List.setIfInBounds_toArray, List.set_cons_zero, List.set_cons_succ])
          refine' tk_any 10 10 (v := _) ?hi92038 ?hd92038 (by kernel_rfl) (by kernel_rfl) (by kernel_rfl) (fun _ _ _ h => h) ?hy92038 hHeld ?hr92038
          case hi92038 => (simp only [List.getElem?_toArray, List.getElem?_cons_succ, List.getElem?_cons_zero]; rfl)
          case hd92038 => rfl
          case hy92038 =>
            refine' Or.inl ⟨?hw92038, ?hx92038⟩
            case hw92038 => rfl
            case hx92038 => (intro w hSw; (try dsimp only at hSw); go_simp; (try with_reducible rfl))
          (try simp only [Act.put, List.setIfInBounds_toArray, List.set_cons_zero, List.set_cons_succ])
          refine wpAnyH_done (by kernel_rfl) ?_ _
          refine NoPanic.normal ?_
          go_wp2
          refine bodyPost_ret (v := .tuple #[.int .i64 3, .int .i64 (eithC c.h.pl d.h.pl), .slice (some ⟨gr, 0, none⟩) 1 1]) ?_ ?_ ?_
          · simp [results, Tryd.results88, go_sem]
          · rfl
          · refine ⟨⟨_, by rw [HPX.out], ?_⟩, HS.out.trans (HSW.out.trans HSV.out), k1, by have h1 := HWW.out.2; have h2 := HCA2.out HTW.out.1 HTW.out.2; omega, HWK1.out⟩
            rw [HPX.out, ← HEE.out]; exact HRW.out
      · have b6 : (d.h.pair == 3) = false := beq_false_of_ne a6
        have HNB := Lib.hid (show ¬ (c.h.pair = 3 ∧ d.h.pair = 3) from fun h => a6 h.2)
        have HPX := Lib.hid (show P = (2, 0, [compF n (carC c) (carC d), compF n (cdrC c) (cdrC d)]) by rw [HP.out, if_neg HN1.out, if_neg HN2.out, if_neg HNB.out])
        clear a5 a6
        go_upto_region 8 with fail
        (try dsimp only [List.append])
        refine wp_region_noPanic ?_
        refine wp_region_held_drew (S := (fun w' => w'.cell? ⟨w.heap.size, 0, none⟩ = some (.int .i64 c.h.f0) ∧ w'.cell? ⟨w.heap.size, 1, none⟩ = some (.int .i64 c.h.f1) ∧ w'.cell? ⟨w.heap.size, 2, none⟩ = some (.int .i64 c.h.f2) ∧ w'.cell? ⟨w.heap.size, 3, none⟩ = some (.int .i64 c.h.f3) ∧ w'.cell? ⟨w.heap.size, 4, none⟩ = some (.int .i64 c.h.f4) ∧ w'.cell? ⟨w.heap.size, 5, none⟩ = some (.int .i64 c.h.f5) ∧ w'.cell? ⟨w.heap.size, 6, none⟩ = some (.int .i64 c.h.pair) ∧ w'.cell? ⟨w.heap.size, 7, none⟩ = some (.int .i64 c.h.pl) ∧ w'.cell? ⟨w.heap.size, 8, none⟩ = some (.slice pa np pc) ∧ w'.cell? ⟨w.heap.size, 9, none⟩ = some (.int .i64 c.h.fn) ∧ w'.cell? ⟨w.heap.size, 10, none⟩ = some (.int .i64 c.h.fl) ∧ w'.cell? ⟨w.heap.size, 11, none⟩ = some (.slice fa nf fc) ∧ w'.cell? ⟨(w.heap.size + 1), 0, none⟩ = some (.int .i64 d.h.f0) ∧ w'.cell? ⟨(w.heap.size + 1), 1, none⟩ = some (.int .i64 d.h.f1) ∧ w'.cell? ⟨(w.heap.size + 1), 2, none⟩ = some (.int .i64 d.h.f2) ∧ w'.cell? ⟨(w.heap.size + 1), 3, none⟩ = some (.int .i64 d.h.f3) ∧ w'.cell? ⟨(w.heap.size + 1), 4, none⟩ = some (.int .i64 d.h.f4) ∧ w'.cell? ⟨(w.heap.size + 1), 5, none⟩ = some (.int .i64 d.h.f5) ∧ w'.cell? ⟨(w.heap.size + 1), 6, none⟩ = some (.int .i64 d.h.pair) ∧ w'.cell? ⟨(w.heap.size + 1), 7, none⟩ = some (.int .i64 d.h.pl) ∧ w'.cell? ⟨(w.heap.size + 1), 8, none⟩ = some (.slice qa mp qc) ∧ w'.cell? ⟨(w.heap.size + 1), 9, none⟩ = some (.int .i64 d.h.fn) ∧ w'.cell? ⟨(w.heap.size + 1), 10, none⟩ = some (.int .i64 d.h.fl) ∧ w'.cell? ⟨(w.heap.size + 1), 11, none⟩ = some (.slice ga mf gc) ∧ w'.cell? ⟨g11, 0, none⟩ = some (.int .i64 E.h.f0) ∧ w'.cell? ⟨g11, 1, none⟩ = some (.int .i64 E.h.f1) ∧ w'.cell? ⟨g11, 2, none⟩ = some (.int .i64 E.h.f2) ∧ w'.cell? ⟨g11, 3, none⟩ = some (.int .i64 E.h.f3) ∧ w'.cell? ⟨g11, 4, none⟩ = some (.int .i64 E.h.f4) ∧ w'.cell? ⟨g11, 5, none⟩ = some (.int .i64 E.h.f5) ∧ w'.cell? ⟨g11, 6, none⟩ = some (.int .i64 E.h.pair) ∧ w'.cell? ⟨g11, 7, none⟩ = some (.int .i64 E.h.pl) ∧ w'.cell? ⟨g11, 8, none⟩ = some (.slice ra E.pairs.length rb) ∧ w'.cell? ⟨g11, 9, none⟩ = some (.int .i64 E.h.fn) ∧ w'.cell? ⟨g11, 10, none⟩ = some (.int .i64 E.h.fl) ∧ w'.cell? ⟨g11, 11, none⟩ = some (.slice rc E.funs.length rd))) (by kernel_rfl) (by (try dsimp only); exact HK2S.out _ (Stay.of (Below.refl wc.heap.size wc).drew)) (fun hHeld => ?_)
        have hdr : Below wc.heap.size wc wc.drew := (Below.refl _ _).drew
        have HSV := Lib.hid (Stay.of (N := (· = cw)) hdr)
        have HR0 := Lib.hid (HRC.out.below hdr)
        have HWK1 := Lib.hid (HWW.out.1.keep hdr)
        have HWZ := Lib.hid hdr.size
        clear hdr
        generalize wc.drew = wd at hHeld HSV HR0 HWK1 HWZ ⊢
        refine' tk_any 0 72 (v := _) ?hi92040 ?hd92040 (by kernel_rfl) (by kernel_rfl) (by kernel_rfl) (fun _ _ _ h => h) ?hy92040 hHeld ?hr92040
        case hi92040 => (simp only [List.getElem?_toArray, List.getElem?_cons_zero]; rfl)
        case hd92040 => rfl
        case hy92040 =>
          refine' Or.inl ⟨?hw92040, ?hx92040⟩
          case hw92040 => rfl
          case hx92040 => (intro w hSw; (try dsimp only at hSw); go_simp; (try with_reducible rfl))
        (try simp only [Act.put, List.setIfInBounds_toArray, List.set_cons_zero, List.set_cons_succ])
        refine' tk_any 1 73 (v := _) ?hi92041 ?hd92041 (by kernel_rfl) (by kernel_rfl) (by kernel_rfl) (fun _ _ _ h => h) ?hy92041 hHeld ?hr92041
        case hi92041 => (simp only [List.getElem?_toArray, List.getElem?_cons_succ, List.getElem?_cons_zero]; rfl)
        case hd92041 => rfl
        case hy92041 =>
          refine' Or.inl ⟨?hw92041, ?hx92041⟩
          case hw92041 => rfl
          case hx92041 => (intro w hSw; (try dsimp only at hSw); go_simp; (try with_reducible rfl))
        (try simp only [Act.put, List.setIfInBounds_toArray, List.set_cons_zero, List.set_cons_succ])
        refine' tk_any 2 74 (v := _) ?hi92042 ?hd92042 (by kernel_rfl) (by kernel_rfl) (by kernel_rfl) (fun _ _ _ h => h) ?hy92042 hHeld ?hr92042
        case hi92042 => (simp only [List.getElem?_toArray, List.getElem?_cons_succ, List.getElem?_cons_zero]; rfl)
        case hd92042 => rfl
        case hy92042 =>
          refine' Or.inl ⟨?hw92042, ?hx92042⟩
          case hw92042 => rfl
          case hx92042 => (intro w hSw; (try dsimp only at hSw); go_simp; (try with_reducible rfl))
        (try simp only [Act.put, List.setIfInBounds_toArray, List.set_cons_zero, List.set_cons_succ])
        refine' tk_any 4 76 (v := _) ?hi92043 ?hd92043 (by kernel_rfl) (by kernel_rfl) (by kernel_rfl) (fun _ _ _ h => h) ?hy92043 hHeld ?hr92043
        case hi92043 => (simp only [List.getElem?_toArray, List.getElem?_cons_succ, List.getElem?_cons_zero]; rfl)
        case hd92043 => rfl
        case hy92043 =>
          refine' Or.inl ⟨?hw92043, ?hx92043⟩
          case hw92043 => rfl
          case hx92043 => (intro w hSw; (try dsimp only at hSw); go_simp; (try with_reducible rfl))
        (try simp only [Act.put, List.setIfInBounds_toArray, List.set_cons_zero, List.set_cons_succ])
        refine' tk_any 6 78 (v := _) ?hi92044 ?hd92044 (by kernel_rfl) (by kernel_rfl) (by kernel_rfl) (fun _ _ _ h => h) ?hy92044 hHeld ?hr92044
        case hi92044 => (simp only [List.getElem?_toArray, List.getElem?_cons_succ, List.getElem?_cons_zero]; rfl)
        case hd92044 => rfl
        case hy92044 =>
          refine' Or.inl ⟨?hw92044, ?hx92044⟩
          case hw92044 => rfl
          case hx92044 => (intro w hSw; (try dsimp only at hSw); go_simp; (try with_reducible rfl))
        (try simp only [Act.put, List.setIfInBounds_toArray, List.set_cons_zero, List.set_cons_succ])
        refine' tk_any 7 79 (v := _) ?hi92045 ?hd92045 (by kernel_rfl) (by kernel_rfl) (by kernel_rfl) (fun _ _ _ h => h) ?hy92045 hHeld ?hr92045
        case hi92045 => (simp only [List.getElem?_toArray, List.getElem?_cons_succ, List.getElem?_cons_zero]; rfl)
        case hd92045 => rfl
        case hy92045 =>
          refine' Or.inl ⟨?hw92045, ?hx92045⟩
          case hw92045 => rfl
          case hx92045 => (intro w hSw; (try dsimp only at hSw); go_simp; (try with_reducible rfl))
        (try simp only [Act.put, List.setIfInBounds_toArray, List.set_cons_zero, List.set_cons_succ])
        refine' tk_call 3 ?hi92047 (by kernel_rfl) ?hr92047
        case hi92047 => (simp only [List.getElem?_toArray, List.getElem?_cons_succ, List.getElem?_cons_zero]; rfl)
        intro K hK
        go_simp
        go_at_call 53
        refine (HCDR.out wd (HS.out.trans (HSW.out.trans HSV.out))).mono ?_
        rintro e2 w3 ⟨⟨v, rfl, hv⟩, hb⟩
        obtain ⟨ua, ub, uc, ud, rfl, _, _⟩ := hv.form
        replace HSV := Lib.hid (HSV.out.then hb)
        replace HR0 := Lib.hid (HR0.out.below hb)
        replace HWK1 := Lib.hid (HWK1.out.keep hb)
        replace HWZ := Lib.hid (Nat.le_trans HWZ.out hb.size)
        have HU := Lib.hid hv
        clear hb hv
        go_wp2_with fail
        clear hHeld
        refine hK.out _ _ (by (try dsimp only); exact HK2S.out _ HSV.out) (fun hHeld => ?_)
        clear hK K
        (try simp only [Act.put, List.setIfInBounds_toArray, List.set_cons_zero, List.set_cons_succ])
        refine' tk_call 5 ?hi92048 (by kernel_rfl) ?hr92048
        case hi92048 => (simp only [List.getElem?_toArray, List.getElem?_cons_succ, List.getElem?_cons_zero]; rfl)
        intro K hK
        go_simp
        go_at_call 53
        refine (HDDR.out w3 (HS.out.trans (HSW.out.trans HSV.out))).mono ?_
        rintro e2 w5 ⟨⟨v, rfl, hv⟩, hb⟩
        obtain ⟨va, vb, vc, vd, rfl, _, _⟩ := hv.form
        replace HSV := Lib.hid (HSV.out.then hb)
        replace HR0 := Lib.hid (HR0.out.below hb)
        replace HWK1 := Lib.hid (HWK1.out.keep hb)
        replace HWZ := Lib.hid (Nat.le_trans HWZ.out hb.size)
        replace HU := Lib.hid (HU.out.below hb)
        have HV := Lib.hid hv
        clear hb hv
        go_wp2_with fail
        clear hHeld
        refine hK.out _ _ (by (try dsimp only); exact HK2S.out _ HSV.out) (fun hHeld => ?_)
        clear hK K
        (try simp only [Act.put, List.setIfInBounds_toArray, List.set_cons_zero, List.set_cons_succ])
        refine' tk_call 8 ?hi92049 (by kernel_rfl) ?hr92049
        case hi92049 => (simp only [List.getElem?_toArray, List.getElem?_cons_succ, List.getElem?_cons_zero]; rfl)
        intro K hK
        go_simp
        go_at_call 63
        refine (HCB.out HTW.out.1 HTW.out.2 HNB.out w5 _ _ k1 HWW.out.2 (HS.out.trans (HSW.out.trans HSV.out)) HWK1.out HU.out HV.out).mono ?_
        rintro e2 w8 ⟨⟨v, rfl, hv⟩, hs, hk2⟩
        obtain ⟨F, hF⟩ : ∃ F, F = compF n (cdrC c) (cdrC d) := ⟨_, rfl⟩
        rw [← hF] at hv
        obtain ⟨ta, tb, tc, td, rfl, _, _⟩ := hv.form
        have HFF := Lib.hid hF
        have HKF := Lib.hid hk2
        have HT8 := Lib.hid (show CoVN (Old w.heap.size) w8 _ F from CoVN.mono hv fun b _ h => by have h1 := HBZ.out; have h2 := HWZ.out; have h3 : b < w.heap.size := h; show b < w5.heap.size; omega)
        have HR8 := Lib.hid (show CoVN (Old w.heap.size) w8 _ E from CoVN.mono (CoVN.stay (CoVN.mono (M := fun b => Old w.heap.size b ∨ b = cw) HR0.out fun b _ h => .inl (h.elim (fun h => Nat.lt_of_lt_of_le h HB.out.size) fun h => by rw [h]; have := HCW.out; have := HSZ.out; show cw < W.heap.size; omega)) (hs.up fun b h => .inr h)) fun b _ h => .inl h)
        replace HSV := Lib.hid (HSV.out.trans hs)
        replace HWZ := Lib.hid (Nat.le_trans HWZ.out hs.size)
        clear hF hv hs hk2 HU HV
        go_wp2_with fail
        clear hHeld
        refine hK.out _ _ (by (try dsimp only); exact HK2S.out _ HSV.out) (fun hHeld => ?_)
        clear hK K
        (try simp only [Act.put, List.setIfInBounds_toArray, List.set_cons_zero, List.set_cons_succ])
        refine' tk_any 10 8 (v := _) ?hi92050 ?hd92050 (by kernel_rfl) (by kernel_rfl) (by kernel_rfl) (fun _ _ _ h => h) ?hy92050 hHeld ?hr92050
        case hi92050 => (simp only [List.getElem?_toArray, List.getElem?_cons_succ, List.getElem?_cons_zero]; rfl)
        case hd92050 => rfl
        case hy92050 =>
          refine' Or.inl ⟨?hw92050, ?hx92050⟩
          case hw92050 => rfl
          case hx92050 => (intro w hSw; (try dsimp only at hSw); go_simp; (try with_reducible rfl))
        (try simp only [Act.put, List.setIfInBounds_toArray, List.set_cons_zero, List.set_cons_succ])
        refine' tk_any 11 9 (v := _) ?hi92051 ?hd92051 (by kernel_rfl) (by kernel_rfl) (by kernel_rfl) (fun _ _ _ h => h) ?hy92051 hHeld ?hr92051
        case hi92051 => (simp only [List.getElem?_toArray, List.getElem?_cons_succ, List.getElem?_cons_zero]; rfl)
        case hd92051 => rfl
        case hy92051 =>
          refine' Or.inl ⟨?hw92051, ?hx92051⟩
          case hw92051 => rfl
          case hx92051 => (intro w hSw; (try dsimp only at hSw); go_simp; (try with_reducible rfl))
        (try simp only [Act.put, List.setIfInBounds_toArray, List.set_cons_zero, List.set_cons_succ])
        refine' tk_call 9 ?hi92052 (by kernel_rfl) ?hr92052
        case hi92052 => (simp only [List.getElem?_toArray, List.getElem?_cons_succ, List.getElem?_cons_zero]; rfl)
        intro K hK
        go_simp
        obtain ⟨w9, h9⟩ : ∃ x : World, x = w8.alloc (.cells #[.int .i64 E.h.f0, .int .i64 E.h.f1, .int .i64 E.h.f2, .int .i64 E.h.f3, .int .i64 E.h.f4, .int .i64 E.h.f5, .int .i64 E.h.pair, .int .i64 E.h.pl, .slice ra E.pairs.length rb, .int .i64 E.h.fn, .int .i64 E.h.fl, .slice rc E.funs.length rd, .int .i64 F.h.f0, .int .i64 F.h.f1, .int .i64 F.h.f2, .int .i64 F.h.f3, .int .i64 F.h.f4, .int .i64 F.h.f5, .int .i64 F.h.pair, .int .i64 F.h.pl, .slice ta F.pairs.length tb, .int .i64 F.h.fn, .int .i64 F.h.fl, .slice tc F.funs.length td] 25) := ⟨_, rfl⟩
        rw [← h9]
        have hb : Below w8.heap.size w8 w9 := by rw [h9]; exact (Below.refl _ _).alloc (Nat.le_refl _) _
        obtain ⟨gr, hgr⟩ : ∃ x, x = w8.heap.size := ⟨_, rfl⟩
        rw [← hgr]
        have HRW := Lib.hid (show CoS w9 (Lc (Old w.heap.size) w9) (.slice (some ⟨gr, 0, none⟩) 2 2) [E, F] from CoS.two7 (r := ⟨E.h, .slice ra E.pairs.length rb, .slice rc E.funs.length rd⟩) (s := ⟨F.h, .slice ta F.pairs.length tb, .slice tc F.funs.length td⟩) (by rw [h9, hgr]; exact heap_alloc_new _ _) (fun h => by have h1 := HBZ.out; have h2 := HWZ.out; have h3 : gr < w.heap.size := h; omega) (CoVN.raw (h := E.h) (HR8.out.below hb)) (CoVN.raw (h := F.h) (HT8.out.below hb)))
        have HSV9 := Lib.hid (HSV.out.then hb)
        have HKF9 := Lib.hid (show ∃ k', k' ≤ k + cost ∧ WalkC M cw k' w9 by obtain ⟨k', h1, h2⟩ := HKF.out; exact ⟨k', h1, h2.keep hb⟩)
        clear hb h9 hgr
        clear hHeld
        refine hK.out _ _ (by (try dsimp only); exact HK2S.out _ HSV9.out) (fun hHeld => ?_)
        clear hK K
        (try simp only [Act.put, List.setIfInBounds_toArray, List.set_cons_zero, List.set_cons_succ])
        refine' tk_any 12 10 (v := _) ?hi92046 ?hd92046 (by kernel_rfl) (by kernel_rfl) (by kernel_rfl) (fun _ _ _ h => h) ?hy92046 hHeld ?hr92046
        case hi92046 => (simp only [List.getElem?_toArray, List.getElem?_cons_succ, List.getElem?_cons_zero]; rfl)
        case hd92046 => rfl
        case hy92046 =>
          refine' Or.inl ⟨?hw92046, ?hx92046⟩
          case hw92046 => rfl
          case hx92046 => (intro w hSw; (try dsimp only at hSw); go_simp; (try with_reducible rfl))
        (try simp only [Act.put, List.setIfInBounds_toArray, List.set_cons_zero, List.set_cons_succ])
        refine wpAnyH_done (by kernel_rfl) ?_ _
        refine NoPanic.normal ?_
        go_wp2
        refine bodyPost_ret (v := .tuple #[.int .i64 2, .int .i64 0, .slice (some ⟨gr, 0, none⟩) 2 2]) ?_ ?_ ?_
        · simp [results, Tryd.results88, go_sem]
        · rfl
        · refine ⟨⟨_, by rw [HPX.out], ?_⟩, HS.out.trans (HSW.out.trans HSV9.out), HKF9.out⟩
          rw [HPX.out, ← HEE.out, ← HFF.out]; exact HRW.out
    · have b5 : (c.h.pair == 3) = false := beq_false_of_ne a5
      have HNB := Lib.hid (show ¬ (c.h.pair = 3 ∧ d.h.pair = 3) from fun h => a5 h.1)
      have HPX := Lib.hid (show P = (2, 0, [compF n (carC c) (carC d), compF n (cdrC c) (cdrC d)]) by rw [HP.out, if_neg HN1.out, if_neg HN2.out, if_neg HNB.out])
      clear a5
      go_upto_region 8 with fail
      (try dsimp only [List.append])
      refine wp_region_noPanic ?_
      refine wp_region_held_drew (S := (fun w' => w'.cell? ⟨w.heap.size, 0, none⟩ = some (.int .i64 c.h.f0) ∧ w'.cell? ⟨w.heap.size, 1, none⟩ = some (.int .i64 c.h.f1) ∧ w'.cell? ⟨w.heap.size, 2, none⟩ = some (.int .i64 c.h.f2) ∧ w'.cell? ⟨w.heap.size, 3, none⟩ = some (.int .i64 c.h.f3) ∧ w'.cell? ⟨w.heap.size, 4, none⟩ = some (.int .i64 c.h.f4) ∧ w'.cell? ⟨w.heap.size, 5, none⟩ = some (.int .i64 c.h.f5) ∧ w'.cell? ⟨w.heap.size, 6, none⟩ = some (.int .i64 c.h.pair) ∧ w'.cell? ⟨w.heap.size, 7, none⟩ = some (.int .i64 c.h.pl) ∧ w'.cell? ⟨w.heap.size, 8, none⟩ = some (.slice pa np pc) ∧ w'.cell? ⟨w.heap.size, 9, none⟩ = some (.int .i64 c.h.fn) ∧ w'.cell? ⟨w.heap.size, 10, none⟩ = some (.int .i64 c.h.fl) ∧ w'.cell? ⟨w.heap.size, 11, none⟩ = some (.slice fa nf fc) ∧ w'.cell? ⟨(w.heap.size + 1), 0, none⟩ = some (.int .i64 d.h.f0) ∧ w'.cell? ⟨(w.heap.size + 1), 1, none⟩ = some (.int .i64 d.h.f1) ∧ w'.cell? ⟨(w.heap.size + 1), 2, none⟩ = some (.int .i64 d.h.f2) ∧ w'.cell? ⟨(w.heap.size + 1), 3, none⟩ = some (.int .i64 d.h.f3) ∧ w'.cell? ⟨(w.heap.size + 1), 4, none⟩ = some (.int .i64 d.h.f4) ∧ w'.cell? ⟨(w.heap.size + 1), 5, none⟩ = some (.int .i64 d.h.f5) ∧ w'.cell? ⟨(w.heap.size + 1), 6, none⟩ = some (.int .i64 d.h.pair) ∧ w'.cell? ⟨(w.heap.size + 1), 7, none⟩ = some (.int .i64 d.h.pl) ∧ w'.cell? ⟨(w.heap.size + 1), 8, none⟩ = some (.slice qa mp qc) ∧ w'.cell? ⟨(w.heap.size + 1), 9, none⟩ = some (.int .i64 d.h.fn) ∧ w'.cell? ⟨(w.heap.size + 1), 10, none⟩ = some (.int .i64 d.h.fl) ∧ w'.cell? ⟨(w.heap.size + 1), 11, none⟩ = some (.slice ga mf gc) ∧ w'.cell? ⟨g11, 0, none⟩ = some (.int .i64 E.h.f0) ∧ w'.cell? ⟨g11, 1, none⟩ = some (.int .i64 E.h.f1) ∧ w'.cell? ⟨g11, 2, none⟩ = some (.int .i64 E.h.f2) ∧ w'.cell? ⟨g11, 3, none⟩ = some (.int .i64 E.h.f3) ∧ w'.cell? ⟨g11, 4, none⟩ = some (.int .i64 E.h.f4) ∧ w'.cell? ⟨g11, 5, none⟩ = some (.int .i64 E.h.f5) ∧ w'.cell? ⟨g11, 6, none⟩ = some (.int .i64 E.h.pair) ∧ w'.cell? ⟨g11, 7, none⟩ = some (.int .i64 E.h.pl) ∧ w'.cell? ⟨g11, 8, none⟩ = some (.slice ra E.pairs.length rb) ∧ w'.cell? ⟨g11, 9, none⟩ = some (.int .i64 E.h.fn) ∧ w'.cell? ⟨g11, 10, none⟩ = some (.int .i64 E.h.fl) ∧ w'.cell? ⟨g11, 11, none⟩ = some (.slice rc E.funs.length rd))) (by kernel_rfl) (by (try dsimp only); exact HK2S.out _ (Stay.of (Below.refl wc.heap.size wc).drew)) (fun hHeld => ?_)
      have hdr : Below wc.heap.size wc wc.drew := (Below.refl _ _).drew
      have HSV := Lib.hid (Stay.of (N := (· = cw)) hdr)
      have HR0 := Lib.hid (HRC.out.below hdr)
      have HWK1 := Lib.hid (HWW.out.1.keep hdr)
      have HWZ := Lib.hid hdr.size
      clear hdr
      generalize wc.drew = wd at hHeld HSV HR0 HWK1 HWZ ⊢
      refine' tk_any 0 72 (v := _) ?hi92053 ?hd92053 (by kernel_rfl) (by kernel_rfl) (by kernel_rfl) (fun _ _ _ h => h) ?hy92053 hHeld ?hr92053
      case hi92053 => (simp only [List.getElem?_toArray, List.getElem?_cons_zero]; rfl)
      case hd92053 => rfl
      case hy92053 =>
        refine' Or.inl ⟨?hw92053, ?hx92053⟩
        case hw92053 => rfl
        case hx92053 => (intro w hSw; (try dsimp only at hSw); go_simp; (try with_reducible rfl))
      (try simp only [Act.put, List.setIfInBounds_toArray, List.set_cons_zero, List.set_cons_succ])
      refine' tk_any 1 73 (v := _) ?hi92054 ?hd92054 (by kernel_rfl) (by kernel_rfl) (by kernel_rfl) (fun _ _ _ h => h) ?hy92054 hHeld ?hr92054
      case hi92054 => (simp only [List.getElem?_toArray, List.getElem?_cons_succ, List.getElem?_cons_zero]; rfl)
      case hd92054 => rfl
      case hy92054 =>
        refine' Or.inl ⟨?hw92054, ?hx92054⟩
        case hw92054 => rfl
        case hx92054 => (intro w hSw; (try dsimp only at hSw); go_simp; (try with_reducible rfl))
      (try simp only [Act.put, List.setIfInBounds_toArray, List.set_cons_zero, List.set_cons_succ])
      refine' tk_any 2 74 (v := _) ?hi92055 ?hd92055 (by kernel_rfl) (by kernel_rfl) (by kernel_rfl) (fun _ _ _ h => h) ?hy92055 hHeld ?hr92055
      case hi92055 => (simp only [List.getElem?_toArray, List.getElem?_cons_succ, List.getElem?_cons_zero]; rfl)
      case hd92055 => rfl
      case hy92055 =>
        refine' Or.inl ⟨?hw92055, ?hx92055⟩
        case hw92055 => rfl
        case hx92055 => (intro w hSw; (try dsimp only at hSw); go_simp; (try with_reducible rfl))
      (try simp only [Act.put, List.setIfInBounds_toArray, List.set_cons_zero, List.set_cons_succ])
      refine' tk_any 4 76 (v := _) ?hi92056 ?hd92056 (by kernel_rfl) (by kernel_rfl) (by kernel_rfl) (fun _ _ _ h => h) ?hy92056 hHeld ?hr92056
      case hi92056 => (simp only [List.getElem?_toArray, List.getElem?_cons_succ, List.getElem?_cons_zero]; rfl)
      case hd92056 => rfl
      case hy92056 =>
        refine' Or.inl ⟨?hw92056, ?hx92056⟩
        case hw92056 => rfl
        case hx92056 => (intro w hSw; (try dsimp only at hSw); go_simp; (try with_reducible rfl))
      (try simp only [Act.put, List.setIfInBounds_toArray, List.set_cons_zero, List.set_cons_succ])
      refine' tk_any 6 78 (v := _) ?hi92057 ?hd92057 (by kernel_rfl) (by kernel_rfl) (by kernel_rfl) (fun _ _ _ h => h) ?hy92057 hHeld ?hr92057
      case hi92057 => (simp only [List.getElem?_toArray, List.getElem?_cons_succ, List.getElem?_cons_zero]; rfl)
      case hd92057 => rfl
      case hy92057 =>
        refine' Or.inl ⟨?hw92057, ?hx92057⟩
        case hw92057 => rfl
        case hx92057 => (intro w hSw; (try dsimp only at hSw); go_simp; (try with_reducible rfl))
      (try simp only [Act.put, List.setIfInBounds_toArray, List.set_cons_zero, List.set_cons_succ])
      refine' tk_any 7 79 (v := _) ?hi92058 ?hd92058 (by kernel_rfl) (by kernel_rfl) (by kernel_rfl) (fun _ _ _ h => h) ?hy92058 hHeld ?hr92058
      case hi92058 => (simp only [List.getElem?_toArray, List.getElem?_cons_succ, List.getElem?_cons_zero]; rfl)
      case hd92058 => rfl
      case hy92058 =>
        refine' Or.inl ⟨?hw92058, ?hx92058⟩
        case hw92058 => rfl
        case hx92058 => (intro w hSw; (try dsimp only at hSw); go_simp; (try with_reducible rfl))
      (try simp only [Act.put, List.setIfInBounds_toArray, List.set_cons_zero, List.set_cons_succ])
      refine' tk_call 3 ?hi92060 (by kernel_rfl) ?hr92060
      case hi92060 => (simp only [List.getElem?_toArray, List.getElem?_cons_succ, List.getElem?_cons_zero]; rfl)
      intro K hK
      go_simp
      go_at_call 53
      refine (HCDR.out wd (HS.out.trans (HSW.out.trans HSV.out))).mono ?_
      rintro e2 w3 ⟨⟨v, rfl, hv⟩, hb⟩
      obtain ⟨ua, ub, uc, ud, rfl, _, _⟩ := hv.form
      replace HSV := Lib.hid (HSV.out.then hb)
      replace HR0 := Lib.hid (HR0.out.below hb)
      replace HWK1 := Lib.hid (HWK1.out.keep hb)
      replace HWZ := Lib.hid (Nat.le_trans HWZ.out hb.size)
      have HU := Lib.hid hv
      clear hb hv
      go_wp2_with fail
      clear hHeld
      refine hK.out _ _ (by (try dsimp only); exact HK2S.out _ HSV.out) (fun hHeld => ?_)
      clear hK K
      (try simp only [Act.put, List.setIfInBounds_toArray, List.set_cons_zero, List.set_cons_succ])
      refine' tk_call 5 ?hi92061 (by kernel_rfl) ?hr92061
      case hi92061 => (simp only [List.getElem?_toArray, List.getElem?_cons_succ, List.getElem?_cons_zero]; rfl)
      intro K hK
      go_simp
      go_at_call 53
      refine (HDDR.out w3 (HS.out.trans (HSW.out.trans HSV.out))).mono ?_
      rintro e2 w5 ⟨⟨v, rfl, hv⟩, hb⟩
      obtain ⟨va, vb, vc, vd, rfl, _, _⟩ := hv.form
      replace HSV := Lib.hid (HSV.out.then hb)
      replace HR0 := Lib.hid (HR0.out.below hb)
      replace HWK1 := Lib.hid (HWK1.out.keep hb)
      replace HWZ := Lib.hid (Nat.le_trans HWZ.out hb.size)
      replace HU := Lib.hid (HU.out.below hb)
      have HV := Lib.hid hv
      clear hb hv
      go_wp2_with fail
      clear hHeld
      refine hK.out _ _ (by (try dsimp only); exact HK2S.out _ HSV.out) (fun hHeld => ?_)
      clear hK K
      (try simp only [Act.put, List.setIfInBounds_toArray, List.set_cons_zero, List.set_cons_succ])
      refine' tk_call 8 ?hi92062 (by kernel_rfl) ?hr92062
      case hi92062 => (simp only [List.getElem?_toArray, List.getElem?_cons_succ, List.getElem?_cons_zero]; rfl)
      intro K hK
      go_simp
      go_at_call 63
      refine (HCB.out HTW.out.1 HTW.out.2 HNB.out w5 _ _ k1 HWW.out.2 (HS.out.trans (HSW.out.trans HSV.out)) HWK1.out HU.out HV.out).mono ?_
      rintro e2 w8 ⟨⟨v, rfl, hv⟩, hs, hk2⟩
      obtain ⟨F, hF⟩ : ∃ F, F = compF n (cdrC c) (cdrC d) := ⟨_, rfl⟩
      rw [← hF] at hv
      obtain ⟨ta, tb, tc, td, rfl, _, _⟩ := hv.form
      have HFF := Lib.hid hF
      have HKF := Lib.hid hk2
      have HT8 := Lib.hid (show CoVN (Old w.heap.size) w8 _ F from CoVN.mono hv fun b _ h => by have h1 := HBZ.out; have h2 := HWZ.out; have h3 : b < w.heap.size := h; show b < w5.heap.size; omega)
      have HR8 := Lib.hid (show CoVN (Old w.heap.size) w8 _ E from CoVN.mono (CoVN.stay (CoVN.mono (M := fun b => Old w.heap.size b ∨ b = cw) HR0.out fun b _ h => .inl (h.elim (fun h => Nat.lt_of_lt_of_le h HB.out.size) fun h => by rw [h]; have := HCW.out; have := HSZ.out; show cw < W.heap.size; omega)) (hs.up fun b h => .inr h)) fun b _ h => .inl h)
      replace HSV := Lib.hid (HSV.out.trans hs)
      replace HWZ := Lib.hid (Nat.le_trans HWZ.out hs.size)
      clear hF hv hs hk2 HU HV
      go_wp2_with fail
      clear hHeld
      refine hK.out _ _ (by (try dsimp only); exact HK2S.out _ HSV.out) (fun hHeld => ?_)
      clear hK K
      (try simp only [Act.put, List.setIfInBounds_toArray, List.set_cons_zero, List.set_cons_succ])
      refine' tk_any 10 8 (v := _) ?hi92063 ?hd92063 (by kernel_rfl) (by kernel_rfl) (by kernel_rfl) (fun _ _ _ h => h) ?hy92063 hHeld ?hr92063
      case hi92063 => (simp only [List.getElem?_toArray, List.getElem?_cons_succ, List.getElem?_cons_zero]; rfl)
      case hd92063 => rfl
      case hy92063 =>
        refine' Or.inl ⟨?hw92063, ?hx92063⟩
        case hw92063 => rfl
        case hx92063 => (intro w hSw; (try dsimp only at hSw); go_simp; (try with_reducible rfl))
      (try simp only [Act.put, List.setIfInBounds_toArray, List.set_cons_zero, List.set_cons_succ])
      refine' tk_any 11 9 (v := _) ?hi92064 ?hd92064 (by kernel_rfl) (by kernel_rfl) (by kernel_rfl) (fun _ _ _ h => h) ?hy92064 hHeld ?hr92064
      case hi92064 => (simp only [List.getElem?_toArray, List.getElem?_cons_succ, List.getElem?_cons_zero]; rfl)
      case hd92064 => rfl
      case hy92064 =>
        refine' Or.inl ⟨?hw92064, ?hx92064⟩
        case hw92064 => rfl
        case hx92064 => (intro w hSw; (try dsimp only at hSw); go_simp; (try with_reducible rfl))
      (try simp only [Act.put, List.setIfInBounds_toArray, List.set_cons_zero, List.set_cons_succ])
      refine' tk_call 9 ?hi92065 (by kernel_rfl) ?hr92065
      case hi92065 => (simp only [List.getElem?_toArray, List.getElem?_cons_succ, List.getElem?_cons_zero]; rfl)
      intro K hK
      go_simp
      obtain ⟨w9, h9⟩ : ∃ x : World, x = w8.alloc (.cells #[.int .i64 E.h.f0, .int .i64 E.h.f1, .int .i64 E.h.f2, .int .i64 E.h.f3, .int .i64 E.h.f4, .int .i64 E.h.f5, .int .i64 E.h.pair, .int .i64 E.h.pl, .slice ra E.pairs.length rb, .int .i64 E.h.fn, .int .i64 E.h.fl, .slice rc E.funs.length rd, .int .i64 F.h.f0, .int .i64 F.h.f1, .int .i64 F.h.f2, .int .i64 F.h.f3, .int .i64 F.h.f4, .int .i64 F.h.f5, .int .i64 F.h.pair, .int .i64 F.h.pl, .slice ta F.pairs.length tb, .int .i64 F.h.fn, .int .i64 F.h.fl, .slice tc F.funs.length td] 25) := ⟨_, rfl⟩
      rw [← h9]
      have hb : Below w8.heap.size w8 w9 := by rw [h9]; exact (Below.refl _ _).alloc (Nat.le_refl _) _
      obtain ⟨gr, hgr⟩ : ∃ x, x = w8.heap.size := ⟨_, rfl⟩
      rw [← hgr]
      have HRW := Lib.hid (show CoS w9 (Lc (Old w.heap.size) w9) (.slice (some ⟨gr, 0, none⟩) 2 2) [E, F] from CoS.two7 (r := ⟨E.h, .slice ra E.pairs.length rb, .slice rc E.funs.length rd⟩) (s := ⟨F.h, .slice ta F.pairs.length tb, .slice tc F.funs.length td⟩) (by rw [h9, hgr]; exact heap_alloc_new _ _) (fun h => by have h1 := HBZ.out; have h2 := HWZ.out; have h3 : gr < w.heap.size := h; omega) (CoVN.raw (h := E.h) (HR8.out.below hb)) (CoVN.raw (h := F.h) (HT8.out.below hb)))
      have HSV9 := Lib.hid (HSV.out.then hb)
      have HKF9 := Lib.hid (show ∃ k', k' ≤ k + cost ∧ WalkC M cw k' w9 by obtain ⟨k', h1, h2⟩ := HKF.out; exact ⟨k', h1, h2.keep hb⟩)
      clear hb h9 hgr
      clear hHeld
      refine hK.out _ _ (by (try dsimp only); exact HK2S.out _ HSV9.out) (fun hHeld => ?_)
      clear hK K
      (try simp only [Act.put, List.setIfInBounds_toArray, List.set_cons_zero, List.set_cons_succ])
      refine' tk_any 12 10 (v := _) ?hi92059 ?hd92059 (by kernel_rfl) (by kernel_rfl) (by kernel_rfl) (fun _ _ _ h => h) ?hy92059 hHeld ?hr92059
      case hi92059 => (simp only [List.getElem?_toArray, List.getElem?_cons_succ, List.getElem?_cons_zero]; rfl)
      case hd92059 => rfl
      case hy92059 =>
        refine' Or.inl ⟨?hw92059, ?hx92059⟩
        case hw92059 => rfl
        case hx92059 => (intro w hSw; (try dsimp only at hSw); go_simp; (try with_reducible rfl))
      (try simp only [Act.put, List.setIfInBounds_toArray, List.set_cons_zero, List.set_cons_succ])
      refine wpAnyH_done (by kernel_rfl) ?_ _
      refine NoPanic.normal ?_
      go_wp2
      refine bodyPost_ret (v := .tuple #[.int .i64 2, .int .i64 0, .slice (some ⟨gr, 0, none⟩) 2 2]) ?_ ?_ ?_
      · simp [results, Tryd.results88, go_sem]
      · rfl
      · refine ⟨⟨_, by rw [HPX.out], ?_⟩, HS.out.trans (HSW.out.trans HSV9.out), HKF9.out⟩
        rw [HPX.out, ← HEE.out, ← HFF.out]; exact HRW.out
end Go.Proofs.YtlalnkabfigodaaDoor
