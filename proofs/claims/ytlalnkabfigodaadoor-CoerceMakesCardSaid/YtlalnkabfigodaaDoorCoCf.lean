import Derived.Test.YtlalnkabfigodaaDoorCoL
import Derived.Test.YtlalnkabfigodaaDoorCoEq
import Derived.Test.YtlalnkabfigodaaDoorTyK
-- joined
namespace Go.Proofs.YtlalnkabfigodaaDoor
open Go.Lib (hid)
open Go.RowKit

section
variable {N : Nat → Prop} {w w' : World} {c : Co}
theorem Lc.stay {e : Nat} (h : Stay N w w') (k : Lc N w e) : Lc N w' e := ⟨Nat.lt_of_lt_of_le k.1 h.size, k.2⟩
theorem CoVN.stay {v : Value} (h : CoVN N w v c) (k : Stay N w w') : CoVN N w' v c := by
 obtain ⟨r, hv, h⟩ := h
 exact ⟨r, hv, h.mono (fun _ h => h.stay k) fun _ _ h => k.cell (p := ⟨_, _, Option.none⟩) h.1 h.2⟩
theorem CoSN.stay {v : Value} {l : List Co} (h : CoS w (Lc N w) v l) (k : Stay N w w') : CoS w' (Lc N w') v l :=
 h.mono (fun _ h => h.stay k) fun _ _ h => k.cell (p := ⟨_, _, Option.none⟩) h.1 h.2
theorem CBox.stay {g : Nat} {T : TypeId} {r : RawC} (h : CBox w g T r) (hs : Stay N w w') (hn : ¬ N g) : CBox w' g T r := (hs.block g h.lt hn).trans h
end
theorem Stay.up {N M : Nat → Prop} {w w' : World} (h : Stay N w w') (hNM : ∀ b, N b → M b) : Stay M w w' := ⟨h.os, h.tape, h.output, h.size, fun k hk hm => h.block k hk fun hn => hm (hNM k hn)⟩
theorem alloc_hs7 (w : World) (o : Obj) : (w.alloc o).heap.size = w.heap.size + 1 := by simp
/-- all that is in no old block, of which none changes -/
def Old (B : Nat) : Nat → Prop := fun b => b < B
/-- the steps that a walk has taken, of M -/
def WalkC (M c k : Nat) (w : World) : Prop := VarIs w c 58 (.int .i64 ((M : Int) - k))
theorem WalkC.keep {M c k : Nat} {w w' : World} (h : WalkC M c k w) (hb : Below w.heap.size w w') : WalkC M c k w' := VarIs.keep h hb
theorem WalkC.lt {M c k : Nat} {w : World} (h : WalkC M c k w) : c < w.heap.size := VarIs.lt h
/-- one relation after another, over the first j of a list -/
def ChainR {α σ : Type} (z : α) (Rel : α → σ → σ → Prop) (l : List α) : Nat → σ → σ → Prop
 | 0, s, s' => s' = s
 | j + 1, s, s' => ∃ t, ChainR z Rel l j s t ∧ Rel (l.getD j z) t s'
/-- what is known of a function value that is called with one thing -/
structure FnV {α σ : Type} (A : World → Value → α → Prop) (N : Nat → Prop) (St : σ → World → Prop) (k : Nat) (lb : Array Value) (W0 : World) (Pre : α → σ → Prop) (Res : World → World → Value → α → Prop) (Rel : α → σ → σ → Prop) : Prop where
 keep : ∀ (s : σ) (w w' : World), St s w → Below w.heap.size w w' → St s w'
 enter : ∀ (args : Array Value) (w : World), (callFunc k args).run Tryd.prog w = .ok (.enter k args) w
 call : ∀ (w : World) (vx : Value) (x : α) (s : σ), Stay N W0 w → St s w → Pre x s → A w vx x →
  Calls Tryd.prog k (#[vx] ++ lb) w fun e w' => (∃ v, e = .returned v ∧ Res w w' v x) ∧ Stay N w w' ∧ ∃ s', Rel x s s' ∧ St s' w'
/-- what is known of a function value that is called with two coercions, and answers yes or no -/
structure FnD {σ : Type} (N : Nat → Prop) (St : σ → World → Prop) (k : Nat) (lb : Array Value) (W0 : World) (Pre : Co → Co → σ → Prop) (P : Co → Co → Bool) (Rel : Co → Co → σ → σ → Prop) : Prop where
 keep : ∀ (s : σ) (w w' : World), St s w → Below w.heap.size w w' → St s w'
 enter : ∀ (args : Array Value) (w : World), (callFunc k args).run Tryd.prog w = .ok (.enter k args) w
 call : ∀ (w : World) (vx vy : Value) (x y : Co) (s : σ), Stay N W0 w → St s w → Pre x y s → CoVN N w vx x → CoVN N w vy y →
  Calls Tryd.prog k (#[vx, vy] ++ lb) w fun e w' => e = .returned (.bool (P x y)) ∧ Stay N w w' ∧ ∃ s', Rel x y s s' ∧ St s' w'
/-- the answer of a predicate -/
def BoolR (P : Co → Bool) : World → World → Value → Co → Prop := fun _ _ v x => v = .bool (P x)
theorem ret_int7 {a b : Int} (h : a = b) : Ending.returned (.int .i64 a) = .returned (.int .i64 b) := by rw [h]

set_option maxRecDepth 100000 in
set_option maxHeartbeats 4000000 in
theorem onc_any (M c k d : Nat) (w : World) (hw : WalkC M c k w) (hk : k + 1 ≤ M) (hM : M ≤ 2147483647) (hd : d ≤ 131072) : Calls Tryd.prog 46 #[.pointer (some ⟨c, 0, none⟩), .int .i64 d] w
  fun e w' => e = .returned (.bool true) ∧ Stay (· = c) w w' ∧ WalkC M c (k + 1) w' := by
 obtain ⟨x, hx⟩ : ∃ x : Int, x = (M : Int) - k := ⟨_, rfl⟩
 unfold WalkC at hw ⊢
 rw [← hx] at hw
 have h1 : 1 ≤ x := by omega
 have h2 : x ≤ 2147483647 := by omega
 have hc := VarIs.c hw
 have hf := VarIs.fr hw 0
 have h3 : decide ((131072 : Int) < (d : Int)) = false := decide_eq_false (by omega)
 have h4 : decide (x ≤ 0) = false := decide_eq_false (by omega)
 have HW := hid hw
 have HX := hid hx
 clear hw hk hd hM hx
 go_enter Tryd.func46, Tryd.ntmps46
 go_wp2
 go_ret
 refine ⟨rfl, Stay.set (N := (· = c)) .refl rfl _, ?_⟩
 have := VarIs.set HW.out (.int .i64 (x - 1))
 rwa [show x - 1 = (M : Int) - ((k + 1 : Nat) : Int) by rw [HX.out]; omega] at this ⊢
end Go.Proofs.YtlalnkabfigodaaDoor
namespace Go.Proofs.YtlalnkabfigodaaDoor
open Go.Lib (hid)
open Go.RowKit

def zip2 (l m : List Co) : List (Co × Co) := (List.range l.length).map fun j => (l.getD j co0, m.getD j co0)
def allD (P : Co → Co → Bool) (l m : List Co) : Bool := (List.range l.length).all fun j => P (l.getD j co0) (m.getD j co0)
theorem allD_iff {P : Co → Co → Bool} {l m : List Co} : allD P l m = true ↔ ∀ j, j < l.length → P (l.getD j co0) (m.getD j co0) = true := by
 unfold allD
 simp [List.all_eq_true]
/-- what is left behind where the first j have been asked -/
def IxPost {σ : Type} (Rel : Co → σ → σ → Prop) (St : σ → World → Prop) (l : List Co) (s : σ) (b : Bool) (w' : World) : Prop := ∃ j s', j ≤ l.length ∧ ChainR co0 Rel l j s s' ∧ St s' w' ∧ (b = false → j = l.length)
/-- one relation after another, over the first j of two lists -/
def ChainD {σ : Type} (Rel : Co → Co → σ → σ → Prop) (l m : List Co) : Nat → σ → σ → Prop
 | 0, s, s' => s' = s
 | j + 1, s, s' => ∃ t, ChainD Rel l m j s t ∧ Rel (l.getD j co0) (m.getD j co0) t s'
def EqPost {σ : Type} (Rel : Co → Co → σ → σ → Prop) (St : σ → World → Prop) (l m : List Co) (s : σ) (w' : World) : Prop := ∃ j s', (l.length ≠ m.length → j = 0) ∧ j ≤ l.length ∧ ChainD Rel l m j s s' ∧ St s' w'

set_option maxRecDepth 100000 in
set_option maxHeartbeats 8000000 in
theorem indexc_any {σ : Type} {N : Nat → Prop} {St : σ → World → Prop} {k : Nat} {lb : Array Value} {W0 : World} {Pre : Co → σ → Prop} {P : Co → Bool} {Rel : Co → σ → σ → Prop} (F : FnV (CoVN N) N St k lb W0 Pre (BoolR P) Rel)
  (l : List Co) (a1 : Option Addr) (c1 : Nat) (w : World) (s : σ) (hw : Stay N W0 w) (hst : St s w) (hl : CoS w (Lc N w) (.slice a1 l.length c1) l)
  (hpre : ∀ j s', j < l.length → ChainR co0 Rel l j s s' → Pre (l.getD j co0) s') :
  Calls Tryd.prog 90 #[.slice a1 l.length c1, .func (.func k) #[] lb] w
   fun e w' => (∃ i : Int, e = .returned (.int .i64 i) ∧ decide (0 ≤ i) = l.any P) ∧ Stay N w w' ∧ IxPost Rel St l s (l.any P) w' := by
 obtain ⟨nl, hnl⟩ : ∃ n, n = l.length := ⟨_, rfl⟩
 have hlen := hl.len
 rw [← hnl] at hlen
 unfold maxLen at hlen
 rw [← hnl] at hl hpre ⊢
 have eg := F.enter
 have HF := hid F
 have HNL := hid hnl
 have HL := hid hl
 have HP := hid hpre
 have HW := hid hw
 have HS := hid hst
 clear F hnl hl hpre hw hst
 go_enter Tryd.func90, Tryd.ntmps90
 go_wp2
 go_loopw [5, 8] (fun _ i wr => ∃ j : Nat, j ≤ nl ∧ i = .int .i64 j ∧ Hid (∀ i, i < j → P (l.getD i co0) = false) ∧ Hid (Stay N w wr) ∧ Hid (∃ s', ChainR co0 Rel l j s s' ∧ St s' wr)) (fun _ i _ => nl - (intOf i).toNat)
 case atStart => exact ⟨0, Nat.zero_le _, rfl, hid (fun j hj => absurd hj (Nat.not_lt_zero _)), hid .refl, hid ⟨s, rfl, HS.out⟩⟩
 case round =>
  obtain ⟨j, hj, rfl, HA, HB, HT⟩ := hrel
  by_cases hgo : j < nl
  ·
   have hkl : j < l.length := by rw [← HNL.out]; exact hgo
   obtain ⟨d, hd⟩ : ∃ d, l.getD j co0 = d := ⟨_, rfl⟩
   obtain ⟨b, off, p1, c1', p2, c2', rfl, hb', ⟨e0, e1, e2, e3, e4, e5, e6, e7, e8, e9, e10, e11⟩, hv⟩ := CoSN.elem (CoSN.stay HL.out HB.out) hkl hd
   obtain ⟨s1, hn1, hs1⟩ := HT.out
   have hRR : Pre d s1 := by have := HP.out j s1 (by omega) hn1; rwa [hd] at this
   have C : ∀ w1, Below wr.heap.size wr w1 → Calls Tryd.prog k (#[.agg #[.int .i64 d.h.f0, .int .i64 d.h.f1, .int .i64 d.h.f2, .int .i64 d.h.f3, .int .i64 d.h.f4, .int .i64 d.h.f5, .int .i64 d.h.pair, .int .i64 d.h.pl, .slice p1 d.pairs.length c1', .int .i64 d.h.fn, .int .i64 d.h.fl, .slice p2 d.funs.length c2']] ++ lb) w1
     fun e' w' => e' = .returned (.bool (P d)) ∧ Stay N w w' ∧ ∃ s', ChainR co0 Rel l (j + 1) s s' ∧ St s' w' := fun w1 h1 => by
    have hs := HB.out.then h1
    refine (HF.out.call w1 _ d s1 (HW.out.trans hs) (HF.out.keep _ _ _ hs1 h1) hRR (hv.below h1)).mono ?_
    rintro e' w' ⟨⟨v, h2, h2'⟩, h3, s', h4, h5⟩
    exact ⟨by rw [h2, h2'], hs.trans h3, s', ⟨s1, hn1, by rw [hd]; exact h4⟩, h5⟩
   have hno : P d = false → ∀ i, i < j + 1 → P (l.getD i co0) = false := fun h i hi => by
    by_cases hij : i < j
    ·
     exact HA.out i hij
    ·
     obtain rfl : i = j := by omega
     rw [hd]; exact h
   have hyes : P d = true → l.any P = true := fun h => List.any_eq_true.2 ⟨d, by rw [← hd]; exact getC_mem hkl, h⟩
   obtain ⟨q1, hq1⟩ : ∃ q, q = d.pairs.length := ⟨_, rfl⟩
   obtain ⟨q2, hq2⟩ : ∃ q, q = d.funs.length := ⟨_, rfl⟩
   rw [← hq1] at e8 C
   rw [← hq2] at e11 C
   obtain ⟨z, hz⟩ : ∃ z, z = P d := ⟨_, rfl⟩
   rw [← hz] at C hno hyes
   have HC2 := hid C
   have HYES := hid hyes
   have HNO2 := hid hno
   have hlt : (j : Int) < nl := by omega
   have HKL := hid hgo
   clear hd hv C hz hq1 hq2 hgo hj hkl hno hyes HA hRR hn1 HT hs1
   go_wp2_with fail
   refine (HC2.out _ (Below.refl _ _)).mono ?_
   rintro e' w2 ⟨rfl, hst2, hnx⟩
   have HB2 := hid hst2
   have HN2 := hid hnx
   clear hst2 hnx
   cases z with
   | true =>
    have hbad := HYES.out (by trivial)
    have HBAD := hid hbad
    clear hbad
    go_wp2
    go_ret
    refine ⟨⟨_, rfl, ?_⟩, HB2.out, ?_⟩
    ·
     rw [HBAD.out]; simp
    ·
     obtain ⟨s', h1, h2⟩ := HN2.out
     exact ⟨j + 1, s', by rw [← HNL.out]; have := HKL.out; omega, h1, h2, fun h => by rw [HBAD.out] at h; cases h⟩
   | false =>
    go_wp2
    exact ⟨⟨j + 1, by have := HKL.out; omega, by go_num, hid (HNO2.out (by trivial)), HB2, HN2⟩, by have := HKL.out; simp [intOf]; omega⟩
  ·
   have hend : l.any P = false := by
    rw [List.any_eq_false]
    intro x hx
    obtain ⟨i, hi, rfl⟩ := List.getElem_of_mem hx
    have := HA.out i (by rw [← HNL.out] at hi; omega)
    simpa [List.getD_eq_getElem?_getD, hi] using this
   have hlt : ¬ (j : Int) < nl := by omega
   have hjn : j = nl := by omega
   have HE := hid hend
   have HJ := hid hjn
   clear hend HA hgo hj hjn
   go_wp2
   go_ret
   exact ⟨⟨_, rfl, by rw [HE.out]; rfl⟩, HB.out, by obtain ⟨s', h1, h2⟩ := HT.out; exact ⟨j, s', by rw [← HNL.out, HJ.out]; exact Nat.le_refl _, h1, h2, fun _ => by rw [← HNL.out]; exact HJ.out⟩⟩

set_option maxRecDepth 100000 in
set_option maxHeartbeats 8000000 in
theorem containsc_any {σ : Type} {N : Nat → Prop} {St : σ → World → Prop} {k : Nat} {lb : Array Value} {W0 : World} {Pre : Co → σ → Prop} {P : Co → Bool} {Rel : Co → σ → σ → Prop} (F : FnV (CoVN N) N St k lb W0 Pre (BoolR P) Rel)
  (l : List Co) (a1 : Option Addr) (c1 : Nat) (w : World) (s : σ) (hw : Stay N W0 w) (hst : St s w) (hl : CoS w (Lc N w) (.slice a1 l.length c1) l)
  (hpre : ∀ j s', j < l.length → ChainR co0 Rel l j s s' → Pre (l.getD j co0) s') :
  Calls Tryd.prog 68 #[.slice a1 l.length c1, .func (.func k) #[] lb] w
   fun e w' => e = .returned (.bool (l.any P)) ∧ Stay N w w' ∧ IxPost Rel St l s (l.any P) w' := by
 have C := indexc_any F l a1 c1 w s hw hst hl hpre
 obtain ⟨nl, hnl⟩ : ∃ n, n = l.length := ⟨_, rfl⟩
 obtain ⟨z, hz⟩ : ∃ z, z = l.any P := ⟨_, rfl⟩
 rw [← hz] at C ⊢
 rw [← hnl] at C ⊢
 have HC := hid C
 clear C F hw hst hl hpre hnl hz
 go_enter Tryd.func68, Tryd.ntmps68
 go_wp2_with fail
 refine HC.out.mono ?_
 rintro e w2 ⟨⟨i, rfl, hi⟩, h2, h3⟩
 have HI := hid hi
 have H2 := hid h2
 have H3 := hid h3
 clear hi h2 h3
 go_wp2
 go_ret
 exact ⟨ret_bool (by rw [← HI.out]), H2.out, H3.out⟩

set_option maxRecDepth 100000 in
set_option maxHeartbeats 8000000 in
theorem equalc_any {σ : Type} {N : Nat → Prop} {St : σ → World → Prop} {k : Nat} {lb : Array Value} {W0 : World} {Pre : Co → Co → σ → Prop} {P : Co → Co → Bool} {Rel : Co → Co → σ → σ → Prop} (F : FnD N St k lb W0 Pre P Rel)
  (hN : ∀ b, N b → b < W0.heap.size) (l m : List Co) (a1 a2 : Option Addr) (c1 c2 : Nat) (w : World) (s : σ) (hw : Stay N W0 w) (hst : St s w) (hl : CoS w (Lc N w) (.slice a1 l.length c1) l) (hm : CoS w (Lc N w) (.slice a2 m.length c2) m)
  (hpre : l.length = m.length → ∀ j s', j < l.length → ChainD Rel l m j s s' → Pre (l.getD j co0) (m.getD j co0) s') :
  Calls Tryd.prog 47 #[.slice a1 l.length c1, .slice a2 m.length c2, .func (.func k) #[] lb] w
   fun e w' => e = .returned (.bool (decide (l.length = m.length) && allD P l m)) ∧ Stay N w w' ∧ EqPost Rel St l m s w' := by
 obtain ⟨nl, hnl⟩ : ∃ n, n = l.length := ⟨_, rfl⟩
 obtain ⟨nm, hnm⟩ : ∃ n, n = m.length := ⟨_, rfl⟩
 have hlen := hl.len
 rw [← hnl] at hlen
 unfold maxLen at hlen
 rw [← hnl] at hl hpre ⊢
 rw [← hnm] at hm hpre ⊢
 have eg := F.enter
 have HF := hid F
 have HNL := hid hnl
 have HNM := hid hnm
 have HL := hid hl
 have HM := hid hm
 have HP := hid hpre
 have HW := hid hw
 have HS := hid hst
 have HN := hid hN
 clear F hnl hnm hl hm hpre hw hst hN
 by_cases hne : nl = nm
 case neg =>
  have hb : ((nl : Int) != (nm : Int)) = true := by rw [bne_iff_ne]; omega
  have hd : decide (nl = nm) = false := decide_eq_false hne
  have HD := hid hd
  have HNE := hid hne
  clear hne hd
  go_enter Tryd.func47, Tryd.ntmps47
  go_wp2
  go_ret
  exact ⟨ret_bool (by rw [HD.out]; rfl), .refl, 0, s, fun _ => rfl, Nat.zero_le _, rfl, HS.out⟩
 subst hne
 have hb : ((nl : Int) != (nl : Int)) = false := by simp
 go_enter Tryd.func47, Tryd.ntmps47
 go_wp2
 go_loopw [7, 17] (fun _ i wr => ∃ j : Nat, j ≤ nl ∧ i = .int .i64 j ∧ Hid (∀ i, i < j → P (l.getD i co0) (m.getD i co0) = true) ∧ Hid (Stay N w wr) ∧ Hid (∃ s', ChainD Rel l m j s s' ∧ St s' wr)) (fun _ i _ => nl - (intOf i).toNat)
 case atStart => exact ⟨0, Nat.zero_le _, rfl, hid (fun j hj => absurd hj (Nat.not_lt_zero _)), hid .refl, hid ⟨s, rfl, HS.out⟩⟩
 case round =>
  obtain ⟨j, hj, rfl, HA, HB, HT⟩ := hrel
  by_cases hgo : j < nl
  ·
   have hkl : j < l.length := by rw [← HNL.out]; exact hgo
   have hkm : j < m.length := by rw [← HNM.out]; exact hgo
   obtain ⟨d, hd⟩ : ∃ d, l.getD j co0 = d := ⟨_, rfl⟩
   obtain ⟨e, he⟩ : ∃ d, m.getD j co0 = d := ⟨_, rfl⟩
   obtain ⟨b, off, p1, c1', p2, c2', rfl, hb', ⟨e0, e1, e2, e3, e4, e5, e6, e7, e8, e9, e10, e11⟩, hv⟩ := CoSN.elem (CoSN.stay HL.out HB.out) hkl hd
   obtain ⟨b2, off2, r1, d1, r2, d2, rfl, hb2, ⟨f0, f1, f2, f3, f4, f5, f6, f7, f8, f9, f10, f11⟩, hu⟩ := CoSN.elem (CoSN.stay HM.out HB.out) hkm he
   obtain ⟨s1, hn1, hs1⟩ := HT.out
   have hRR : Pre d e s1 := by have := HP.out (by trivial) j s1 (by omega) hn1; rwa [hd, he] at this
   have C : ∀ w1, Below wr.heap.size wr w1 → Calls Tryd.prog k (#[.agg #[.int .i64 d.h.f0, .int .i64 d.h.f1, .int .i64 d.h.f2, .int .i64 d.h.f3, .int .i64 d.h.f4, .int .i64 d.h.f5, .int .i64 d.h.pair, .int .i64 d.h.pl, .slice p1 d.pairs.length c1', .int .i64 d.h.fn, .int .i64 d.h.fl, .slice p2 d.funs.length c2'], .agg #[.int .i64 e.h.f0, .int .i64 e.h.f1, .int .i64 e.h.f2, .int .i64 e.h.f3, .int .i64 e.h.f4, .int .i64 e.h.f5, .int .i64 e.h.pair, .int .i64 e.h.pl, .slice r1 e.pairs.length d1, .int .i64 e.h.fn, .int .i64 e.h.fl, .slice r2 e.funs.length d2]] ++ lb) w1
     fun e' w' => e' = .returned (.bool (P d e)) ∧ Stay N w w' ∧ ∃ s', ChainD Rel l m (j + 1) s s' ∧ St s' w' := fun w1 h1 => by
    have hs := HB.out.then h1
    refine (HF.out.call w1 _ _ d e s1 (HW.out.trans hs) (HF.out.keep _ _ _ hs1 h1) hRR (hv.below h1) (hu.below h1)).mono ?_
    rintro e' w' ⟨h2, h3, s', h4, h5⟩
    exact ⟨h2, hs.trans h3, s', ⟨s1, hn1, by rw [hd, he]; exact h4⟩, h5⟩
   have hyes : P d e = true → ∀ i, i < j + 1 → P (l.getD i co0) (m.getD i co0) = true := fun h i hi => by
    by_cases hij : i < j
    ·
     exact HA.out i hij
    ·
     obtain rfl : i = j := by omega
     rw [hd, he]; exact h
   have hno : P d e = false → (decide (nl = nl) && allD P l m) = false := fun h => by
    have : allD P l m ≠ true := fun ha => by have := allD_iff.1 ha j hkl; rw [hd, he, h] at this; cases this
    rw [Bool.eq_false_iff.2 this]; simp
   obtain ⟨q1, hq1⟩ : ∃ q, q = d.pairs.length := ⟨_, rfl⟩
   obtain ⟨q2, hq2⟩ : ∃ q, q = d.funs.length := ⟨_, rfl⟩
   obtain ⟨t1, ht1⟩ : ∃ q, q = e.pairs.length := ⟨_, rfl⟩
   obtain ⟨t2, ht2⟩ : ∃ q, q = e.funs.length := ⟨_, rfl⟩
   rw [← hq1] at e8 C
   rw [← hq2] at e11 C
   rw [← ht1] at f8 C
   rw [← ht2] at f11 C
   obtain ⟨z, hz⟩ : ∃ z, z = P d e := ⟨_, rfl⟩
   rw [← hz] at C hno hyes
   have HC2 := hid C
   have HYES := hid hyes
   have HNO2 := hid hno
   have hlt : (j : Int) < nl := by omega
   have HKL := hid hgo
   clear hd he hv hu C hz hq1 hq2 ht1 ht2 hgo hj hkl hkm hno hyes HA hRR hn1 HT hs1
   go_wp2_with fail
   refine (HC2.out _ ((bAl _ _).alloc (by simp) _)).mono ?_
   rintro e' w2 ⟨rfl, hst2, hnx⟩
   have HB2 := hid hst2
   have HN2 := hid hnx
   clear hst2 hnx
   cases z with
   | false =>
    have hbad := HNO2.out (by trivial)
    have HBAD := hid hbad
    clear hbad
    go_wp2
    go_ret
    refine ⟨ret_bool ?_, HB2.out, ?_⟩
    ·
     have := HBAD.out; simpa using this.symm
    ·
     obtain ⟨s', h1, h2⟩ := HN2.out
     exact ⟨j + 1, s', fun h => absurd (by rw [← HNL.out, ← HNM.out]) h, by rw [← HNL.out]; have := HKL.out; omega, h1, h2⟩
   | true =>
    go_wp2
    exact ⟨⟨j + 1, by have := HKL.out; omega, by go_num, hid (HYES.out (by trivial)), HB2, HN2⟩, by have := HKL.out; simp [intOf]; omega⟩
  ·
   have hend : allD P l m = true := by
    rw [allD_iff]
    intro i hi; exact HA.out i (by rw [← HNL.out] at hi; omega)
   have hlt : ¬ (j : Int) < nl := by omega
   have hjn : j = nl := by omega
   have HE := hid hend
   have HJ := hid hjn
   clear hend HA hgo hj hjn
   go_wp2
   go_ret
   exact ⟨ret_bool (by simp [HE.out]), HB.out, by obtain ⟨s', h1, h2⟩ := HT.out; exact ⟨j, s', fun h => absurd (by rw [← HNL.out, ← HNM.out]) h, by rw [← HNL.out, HJ.out]; exact Nat.le_refl _, h1, h2⟩⟩
end Go.Proofs.YtlalnkabfigodaaDoor
