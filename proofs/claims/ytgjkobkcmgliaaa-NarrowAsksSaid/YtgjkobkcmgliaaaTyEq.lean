import Derived.Test.YtgjkobkcmgliaaaTyK
import Derived.StillTailTactics
import Derived.Shelf.Abstract
namespace Go.Proofs.Ytgjkobkcmgliaaa
open Go.RowKit

/-- all pairs are -/
def allZ (P : Ty → Ty → Bool) (l m : List Ty) : Bool := (List.range l.length).all fun j => P (l.getD j ty0) (m.getD j ty0)
theorem allZ_iff {P : Ty → Ty → Bool} {l m : List Ty} : allZ P l m = true ↔ ∀ j, j < l.length → P (l.getD j ty0) (m.getD j ty0) = true := by
  unfold allZ
  rw [List.all_eq_true]
  exact ⟨fun h j hj => h j (List.mem_range.2 hj), fun h j hj => h j (List.mem_range.1 hj)⟩

set_option maxRecDepth 100000 in
set_option maxHeartbeats 8000000 in
theorem equalf_any {N : Nat → Prop} {St : Nat → World → Prop} {k : Nat} {lb : Array Value} {W0 : World} {R : Ty → Ty → Prop} {P : Ty → Ty → Bool} {cost : Ty → Ty → Nat} {lim : Nat} (F : Fn2 N St k lb W0 R P cost lim)
    (hN : ∀ b, N b → b < W0.heap.size) (l m : List Ty) (a1 a2 : Option Addr) (c1 c2 : Nat) (w : World) (n : Nat) (hw : Stay N W0 w) (hst : St n w) (hl : TyS w (Lo N w) (.slice a1 l.length c1) l) (hm : TyS w (Lo N w) (.slice a2 m.length c2) m)
    (hR : l.length = m.length → ∀ j, j < l.length → R (l.getD j ty0) (m.getD j ty0)) (hc : l.length = m.length → n + preC cost l m l.length ≤ lim) :
    Calls Try.prog 109 #[.slice a1 l.length c1, .slice a2 m.length c2, .func (.func k) #[] lb] w
      fun e w' => e = .returned (.bool (decide (l.length = m.length) && allZ P l m)) ∧ Stay N w w' ∧ ∃ n', n' ≤ n + (if l.length = m.length then preC cost l m l.length else 0) ∧ St n' w' := by
  obtain ⟨nl, hnl⟩ : ∃ n, n = l.length := ⟨_, rfl⟩
  obtain ⟨nm, hnm⟩ : ∃ n, n = m.length := ⟨_, rfl⟩
  have hlen := hl.len
  rw [← hnl] at hlen
  unfold maxLen at hlen
  rw [← hnl] at hl hR hc ⊢
  rw [← hnm] at hm hR hc ⊢
  have eg := F.enter
  have HF := Lib.hid F
  have HNL := Lib.hid hnl
  have HNM := Lib.hid hnm
  have HL := Lib.hid hl
  have HM := Lib.hid hm
  have HR := Lib.hid hR
  have HC := Lib.hid hc
  have HW := Lib.hid hw
  have HS := Lib.hid hst
  have HN := Lib.hid hN
  clear F hnl hnm hl hm hR hc hw hst hN
  by_cases hne : nl = nm
  case neg =>
    have hb : ((nl : Int) != (nm : Int)) = true := by rw [bne_iff_ne]; omega
    have hd : decide (nl = nm) = false := decide_eq_false hne
    have HD := Lib.hid hd
    have HNE := Lib.hid hne
    clear hne hd
    go_enter Try.func109, Try.ntmps109
    go_wp2
    go_ret
    exact ⟨ret_bool (by simp), .refl, n, by omega, HS.out⟩
  subst hne
  have hb : ((nl : Int) != (nl : Int)) = false := by simp
  go_enter Try.func109, Try.ntmps109
  go_wp2
  go_loopw [7, 17] (fun _ i wr => ∃ j : Nat, j ≤ nl ∧ i = .int .i64 j ∧ Hid (∀ i, i < j → P (l.getD i ty0) (m.getD i ty0) = true) ∧ Hid (Stay N w wr) ∧ Hid (∃ n', n' ≤ n + preC cost l m j ∧ St n' wr)) (fun _ i _ => nl - (intOf i).toNat)
  case atStart => exact ⟨0, Nat.zero_le _, rfl, Lib.hid (fun j hj => absurd hj (Nat.not_lt_zero _)), Lib.hid .refl, Lib.hid ⟨n, Nat.le_refl _, HS.out⟩⟩
  case round =>
    obtain ⟨j, hj, rfl, HA, HB, HT⟩ := hrel
    by_cases hgo : j < nl
    · have hkl : j < l.length := by rw [← HNL.out]; exact hgo
      have hkm : j < m.length := by rw [← HNM.out]; exact hgo
      obtain ⟨d, hd⟩ : ∃ d, l.getD j ty0 = d := ⟨_, rfl⟩
      obtain ⟨e, he⟩ : ∃ d, m.getD j ty0 = d := ⟨_, rfl⟩
      obtain ⟨b, off, p1, c1', p2, c2', rfl, hb', e0, e1, e2, e3, e4, e5, hv⟩ := TySN.elem (TySN.stay HL.out HB.out) hkl hd
      obtain ⟨b2, off2, r1, d1, r2, d2, rfl, hb2, f0, f1, f2, f3, f4, f5, hu⟩ := TySN.elem (TySN.stay HM.out HB.out) hkm he
      obtain ⟨n1, hn1, hs1⟩ := HT.out
      have hpc : preC cost l m (j + 1) = preC cost l m j + cost d e := by rw [preC, hd, he]
      have hlim : n1 + cost d e ≤ lim := by
        have h1 := HC.out (by trivial)
        have h2 := @preC_mono cost l m (j + 1) nl (by omega)
        omega
      have hRR : R d e := by have := HR.out (by trivial) j (by omega); rwa [hd, he] at this
      have C : ∀ w1, Below wr.heap.size wr w1 → Calls Try.prog k (#[.agg #[.bool d.all, .int .i64 d.flat, .int .i64 d.pair, .slice p1 d.pairs.length c1', .int .i64 d.fn, .slice p2 d.funs.length c2'], .agg #[.bool e.all, .int .i64 e.flat, .int .i64 e.pair, .slice r1 e.pairs.length d1, .int .i64 e.fn, .slice r2 e.funs.length d2]] ++ lb) w1
          fun e' w' => e' = .returned (.bool (P d e)) ∧ Stay N w w' ∧ ∃ n', n' ≤ n + preC cost l m (j + 1) ∧ St n' w' := fun w1 h1 => by
        have hs := HB.out.then h1
        refine (HF.out.call w1 _ _ d e n1 (HW.out.trans hs) (HF.out.keep _ _ _ hs1 h1) hlim hRR (hv.below h1) (hu.below h1)).mono ?_
        rintro e' w' ⟨h2, h3, n', h4, h5⟩
        exact ⟨h2, hs.trans h3, n', by omega, h5⟩
      have hyes : P d e = true → ∀ i, i < j + 1 → P (l.getD i ty0) (m.getD i ty0) = true := fun h i hi => by
        by_cases hij : i < j
        · exact HA.out i hij
        · obtain rfl : i = j := by omega
          rw [hd, he]; exact h
      have hno : P d e = false → (decide (nl = nl) && allZ P l m) = false := fun h => by
        have : allZ P l m ≠ true := fun ha => by have := allZ_iff.1 ha j hkl; rw [hd, he, h] at this; cases this
        rw [Bool.eq_false_iff.2 this]; simp
      obtain ⟨q1, hq1⟩ : ∃ q, q = d.pairs.length := ⟨_, rfl⟩
      obtain ⟨q2, hq2⟩ : ∃ q, q = d.funs.length := ⟨_, rfl⟩
      obtain ⟨s1, hs1⟩ : ∃ q, q = e.pairs.length := ⟨_, rfl⟩
      obtain ⟨s2, hs2⟩ : ∃ q, q = e.funs.length := ⟨_, rfl⟩
      rw [← hq1] at e3 C
      rw [← hq2] at e5 C
      rw [← hs1] at f3 C
      rw [← hs2] at f5 C
      obtain ⟨z, hz⟩ : ∃ z, z = P d e := ⟨_, rfl⟩
      rw [← hz] at C hno hyes
      have HC2 := Lib.hid C
      have HYES := Lib.hid hyes
      have HNO2 := Lib.hid hno
      have hlt : (j : Int) < nl := by omega
      have HKL := Lib.hid hgo
      have HPC := Lib.hid (@preC_mono cost l m (j + 1) nl (by omega))
      clear hd he hv hu C hz hq1 hq2 hs1 hs2 hgo hj hkl hkm hno hyes HA hpc hlim hRR hn1 HT
      go_wp2_with fail
      refine (HC2.out _ (((Below.refl _ _).alloc (Nat.le_refl _) _).alloc (by simp) _)).mono ?_
      rintro e' w2 ⟨rfl, hst2, hnx⟩
      have HB2 := Lib.hid hst2
      have HN2 := Lib.hid hnx
      clear hst2 hnx
      cases z with
      | false =>
        have hbad := HNO2.out (by trivial)
        have HBAD := Lib.hid hbad
        clear hbad
        go_wp2
        go_ret
        refine ⟨ret_bool ?_, HB2.out, ?_⟩
        · have := HBAD.out; simpa using this.symm
        · obtain ⟨n', h1, h2⟩ := HN2.out
          have := HPC.out
          exact ⟨n', by omega, h2⟩
      | true =>
        go_wp2
        exact ⟨⟨j + 1, by have := HKL.out; omega, by go_num, Lib.hid (HYES.out (by trivial)), HB2, HN2⟩, by have := HKL.out; simp [intOf]; omega⟩
    · have hend : allZ P l m = true := by
        rw [allZ_iff]
        intro i hi; exact HA.out i (by rw [← HNL.out] at hi; omega)
      have hlt : ¬ (j : Int) < nl := by omega
      have hjn : j = nl := by omega
      have HE := Lib.hid hend
      have HJ := Lib.hid hjn
      clear hend HA hgo hj hjn
      go_wp2
      go_ret
      exact ⟨ret_bool (by simp [HE.out]), HB.out, by obtain ⟨n', h1, h2⟩ := HT.out; exact ⟨n', by rw [HJ.out] at h1; simpa using h1, h2⟩⟩
set_option maxRecDepth 100000 in
set_option maxHeartbeats 8000000 in
theorem indexf_any {N : Nat → Prop} {St : Nat → World → Prop} {k : Nat} {lb : Array Value} {W0 : World} {R : Ty → Prop} {P : Ty → Bool} {cost : Ty → Nat} {lim : Nat} (F : Fn1 N St k lb W0 R P cost lim)
    (l : List Ty) (a1 : Option Addr) (c1 : Nat) (w : World) (n : Nat) (hw : Stay N W0 w) (hst : St n w) (hl : TyS w (Lo N w) (.slice a1 l.length c1) l)
    (hR : ∀ j, j < l.length → R (l.getD j ty0)) (hc : n + preD cost l l.length ≤ lim) :
    Calls Try.prog 90 #[.slice a1 l.length c1, .func (.func k) #[] lb] w
      fun e w' => (∃ i : Int, e = .returned (.int .i64 i) ∧ decide (0 ≤ i) = l.any P) ∧ Stay N w w' ∧ ∃ n', n' ≤ n + preD cost l l.length ∧ St n' w' := by
  obtain ⟨nl, hnl⟩ : ∃ n, n = l.length := ⟨_, rfl⟩
  have hlen := hl.len
  rw [← hnl] at hlen
  unfold maxLen at hlen
  rw [← hnl] at hl hR hc ⊢
  have eg := F.enter
  have HF := Lib.hid F
  have HNL := Lib.hid hnl
  have HL := Lib.hid hl
  have HR := Lib.hid hR
  have HC := Lib.hid hc
  have HW := Lib.hid hw
  have HS := Lib.hid hst
  clear F hnl hl hR hc hw hst
  go_enter Try.func90, Try.ntmps90
  go_wp2
  go_loopw [5, 8] (fun _ i wr => ∃ j : Nat, j ≤ nl ∧ i = .int .i64 j ∧ Hid (∀ i, i < j → P (l.getD i ty0) = false) ∧ Hid (Stay N w wr) ∧ Hid (∃ n', n' ≤ n + preD cost l j ∧ St n' wr)) (fun _ i _ => nl - (intOf i).toNat)
  case atStart => exact ⟨0, Nat.zero_le _, rfl, Lib.hid (fun j hj => absurd hj (Nat.not_lt_zero _)), Lib.hid .refl, Lib.hid ⟨n, Nat.le_refl _, HS.out⟩⟩
  case round =>
    obtain ⟨j, hj, rfl, HA, HB, HT⟩ := hrel
    by_cases hgo : j < nl
    · have hkl : j < l.length := by rw [← HNL.out]; exact hgo
      obtain ⟨d, hd⟩ : ∃ d, l.getD j ty0 = d := ⟨_, rfl⟩
      obtain ⟨b, off, p1, c1', p2, c2', rfl, hb', e0, e1, e2, e3, e4, e5, hv⟩ := TySN.elem (TySN.stay HL.out HB.out) hkl hd
      obtain ⟨n1, hn1, hs1⟩ := HT.out
      have hpc : preD cost l (j + 1) = preD cost l j + cost d := by rw [preD, hd]
      have hlim : n1 + cost d ≤ lim := by
        have h1 := HC.out
        have h2 := @preD_mono cost l (j + 1) nl (by omega)
        omega
      have hRR : R d := by have := HR.out j (by omega); rwa [hd] at this
      have C : ∀ w1, Below wr.heap.size wr w1 → Calls Try.prog k (#[.agg #[.bool d.all, .int .i64 d.flat, .int .i64 d.pair, .slice p1 d.pairs.length c1', .int .i64 d.fn, .slice p2 d.funs.length c2']] ++ lb) w1
          fun e' w' => e' = .returned (.bool (P d)) ∧ Stay N w w' ∧ ∃ n', n' ≤ n + preD cost l (j + 1) ∧ St n' w' := fun w1 h1 => by
        have hs := HB.out.then h1
        refine (HF.out.call w1 _ d n1 (HW.out.trans hs) (HF.out.keep _ _ _ hs1 h1) hlim hRR (hv.below h1)).mono ?_
        rintro e' w' ⟨h2, h3, n', h4, h5⟩
        exact ⟨h2, hs.trans h3, n', by omega, h5⟩
      have hno : P d = false → ∀ i, i < j + 1 → P (l.getD i ty0) = false := fun h i hi => by
        by_cases hij : i < j
        · exact HA.out i hij
        · obtain rfl : i = j := by omega
          rw [hd]; exact h
      have hyes : P d = true → l.any P = true := fun h => List.any_eq_true.2 ⟨d, by rw [← hd]; exact getT_mem hkl, h⟩
      obtain ⟨q1, hq1⟩ : ∃ q, q = d.pairs.length := ⟨_, rfl⟩
      obtain ⟨q2, hq2⟩ : ∃ q, q = d.funs.length := ⟨_, rfl⟩
      rw [← hq1] at e3 C
      rw [← hq2] at e5 C
      obtain ⟨z, hz⟩ : ∃ z, z = P d := ⟨_, rfl⟩
      rw [← hz] at C hno hyes
      have HC2 := Lib.hid C
      have HYES := Lib.hid hyes
      have HNO2 := Lib.hid hno
      have hlt : (j : Int) < nl := by omega
      have HKL := Lib.hid hgo
      have HPC := Lib.hid (@preD_mono cost l (j + 1) nl (by omega))
      clear hd hv C hz hq1 hq2 hgo hj hkl hno hyes HA hpc hlim hRR hn1 HT hs1
      go_wp2_with fail
      refine (HC2.out _ (Below.refl _ _)).mono ?_
      rintro e' w2 ⟨rfl, hst2, hnx⟩
      have HB2 := Lib.hid hst2
      have HN2 := Lib.hid hnx
      clear hst2 hnx
      cases z with
      | true =>
        have hbad := HYES.out (by trivial)
        have HBAD := Lib.hid hbad
        clear hbad
        go_wp2
        go_ret
        refine ⟨⟨_, rfl, ?_⟩, HB2.out, ?_⟩
        · rw [HBAD.out]; simp
        · obtain ⟨n', h1, h2⟩ := HN2.out
          have := HPC.out
          exact ⟨n', by omega, h2⟩
      | false =>
        go_wp2
        exact ⟨⟨j + 1, by have := HKL.out; omega, by go_num, Lib.hid (HNO2.out (by trivial)), HB2, HN2⟩, by have := HKL.out; simp [intOf]; omega⟩
    · have hend : l.any P = false := by
        rw [List.any_eq_false]
        intro x hx
        obtain ⟨i, hi, rfl⟩ := List.getElem_of_mem hx
        have := HA.out i (by rw [← HNL.out] at hi; omega)
        simpa [List.getD_eq_getElem?_getD, hi] using this
      have hlt : ¬ (j : Int) < nl := by omega
      have hjn : j = nl := by omega
      have HE := Lib.hid hend
      have HJ := Lib.hid hjn
      clear hend HA hgo hj hjn
      go_wp2
      go_ret
      exact ⟨⟨_, rfl, by rw [HE.out]; rfl⟩, HB.out, by obtain ⟨n', h1, h2⟩ := HT.out; exact ⟨n', by rw [HJ.out] at h1; exact h1, h2⟩⟩

set_option maxRecDepth 100000 in
set_option maxHeartbeats 8000000 in
theorem containsf_any {N : Nat → Prop} {St : Nat → World → Prop} {k : Nat} {lb : Array Value} {W0 : World} {R : Ty → Prop} {P : Ty → Bool} {cost : Ty → Nat} {lim : Nat} (F : Fn1 N St k lb W0 R P cost lim)
    (l : List Ty) (a1 : Option Addr) (c1 : Nat) (w : World) (n : Nat) (hw : Stay N W0 w) (hst : St n w) (hl : TyS w (Lo N w) (.slice a1 l.length c1) l)
    (hR : ∀ j, j < l.length → R (l.getD j ty0)) (hc : n + preD cost l l.length ≤ lim) :
    Calls Try.prog 75 #[.slice a1 l.length c1, .func (.func k) #[] lb] w
      fun e w' => e = .returned (.bool (l.any P)) ∧ Stay N w w' ∧ ∃ n', n' ≤ n + preD cost l l.length ∧ St n' w' := by
  have C := indexf_any F l a1 c1 w n hw hst hl hR hc
  obtain ⟨nl, hnl⟩ : ∃ n, n = l.length := ⟨_, rfl⟩
  obtain ⟨z, hz⟩ : ∃ z, z = l.any P := ⟨_, rfl⟩
  rw [← hz] at C ⊢
  rw [← hnl] at C ⊢
  have HC := Lib.hid C
  clear C F hw hst hl hR hc hnl hz
  go_enter Try.func75, Try.ntmps75
  go_wp2_with fail
  refine HC.out.mono ?_
  rintro e w2 ⟨⟨i, rfl, hi⟩, h2, h3⟩
  have HI := Lib.hid hi
  have H2 := Lib.hid h2
  have H3 := Lib.hid h3
  clear hi h2 h3
  go_wp2
  go_ret
  exact ⟨ret_bool (by rw [← HI.out]), H2.out, H3.out⟩
end Go.Proofs.Ytgjkobkcmgliaaa
