import Derived.Test.YtlalnkabfigodaaDoorCoHw
import Derived.Laws.MakeOwn
namespace Go.Proofs.YtlalnkabfigodaaDoor
open Go.Lib (hid)
open Go.RowKit

/-- a whole coercion is stored, behind others -/
def setA (w : World) (g o : Nat) (r : RawC) : World := ((((((((((((w.setCell ⟨g, o, none⟩ (.int .i64 r.h.f0)).setCell ⟨g, o + 1, none⟩ (.int .i64 r.h.f1)).setCell ⟨g, o + 2, none⟩ (.int .i64 r.h.f2)).setCell ⟨g, o + 3, none⟩ (.int .i64 r.h.f3)).setCell ⟨g, o + 4, none⟩ (.int .i64 r.h.f4)).setCell ⟨g, o + 5, none⟩ (.int .i64 r.h.f5)).setCell ⟨g, o + 6, none⟩ (.int .i64 r.h.pair)).setCell ⟨g, o + 7, none⟩ (.int .i64 r.h.pl)).setCell ⟨g, o + 8, none⟩ (r.pv)).setCell ⟨g, o + 9, none⟩ (.int .i64 r.h.fn)).setCell ⟨g, o + 10, none⟩ (.int .i64 r.h.fl)).setCell ⟨g, o + 11, none⟩ (r.fv))
def BlkO (B g : Nat) (w : World) : Nat → Prop := fun b => B ≤ b ∧ b < w.heap.size ∧ b ≠ g
/-- a row of coercions in a block of the call's own -/
def RowO (g B n : Nat) (w : World) (l : List Co) : Prop := l.length = n ∧ n ≤ 1000 ∧ B ≤ g ∧ ∃ rs, w.heap[g]? = some (.cells (cosCells rs).toArray 25 (0, 0)) ∧ RawsCo w (BlkO B g w) rs l
theorem cos_set {rs : List RawC} {j : Nat} {r : RawC} (hj : j < rs.length) : cosCells (rs.set j r) = (((((((((((((cosCells rs).set (j * 12) (.int .i64 r.h.f0)).set (j * 12 + 1) (.int .i64 r.h.f1)).set (j * 12 + 2) (.int .i64 r.h.f2)).set (j * 12 + 3) (.int .i64 r.h.f3)).set (j * 12 + 4) (.int .i64 r.h.f4)).set (j * 12 + 5) (.int .i64 r.h.f5)).set (j * 12 + 6) (.int .i64 r.h.pair)).set (j * 12 + 7) (.int .i64 r.h.pl)).set (j * 12 + 8) (r.pv)).set (j * 12 + 9) (.int .i64 r.h.fn)).set (j * 12 + 10) (.int .i64 r.h.fl)).set (j * 12 + 11) (r.fv)) := by
 induction rs generalizing j with
 | nil => simp at hj
 | cons x s ih =>
  have e : ∀ x s, cosCells (x :: s) = .int .i64 x.h.f0 :: .int .i64 x.h.f1 :: .int .i64 x.h.f2 :: .int .i64 x.h.f3 :: .int .i64 x.h.f4 :: .int .i64 x.h.f5 :: .int .i64 x.h.pair :: .int .i64 x.h.pl :: x.pv :: .int .i64 x.h.fn :: .int .i64 x.h.fl :: x.fv :: cosCells s := fun _ _ => rfl
  cases j with
  | zero => rw [List.set_cons_zero, e, e]; rfl
  | succ j =>
   rw [List.set_cons_succ, e, e, ih (by simpa using hj)]
   simp only [show (j + 1) * 12 = j * 12 + 12 by omega, List.set_cons_succ]
section
variable {g B n : Nat} {w w' : World} {l : List Co}
theorem RowO.lt (h : RowO g B n w l) : g < w.heap.size := by
 obtain ⟨_, _, _, rs, hg, _⟩ := h
 exact (Array.getElem?_eq_some_iff.1 hg).1
theorem RowO.stay {N : Nat → Prop} (h : RowO g B n w l) (hs : Stay N w w') (hN : ∀ b, N b → b < B) : RowO g B n w' l := by
 have hlt := h.lt
 obtain ⟨h1, h2, h3, rs, hg, hr⟩ := h
 refine ⟨h1, h2, h3, rs, (hs.block g hlt fun hn => by have := hN _ hn; omega).trans hg, hr.mono (fun b h => ⟨h.1, Nat.lt_of_lt_of_le h.2.1 hs.size, h.2.2⟩) fun b o h => ?_⟩
 exact hs.cell (p := ⟨b, o, none⟩) h.2.1 fun hn => by have h1 := hN _ hn; have h2 := h.1; have h3 : b < B := h1; omega
theorem RowO.get (h : RowO g B n w l) {j : Nat} (hj : j < n) : ∃ r : RawC, w.cell? ⟨g, j * 12, none⟩ = some (.int .i64 r.h.f0) ∧ w.cell? ⟨g, j * 12 + 1, none⟩ = some (.int .i64 r.h.f1) ∧ w.cell? ⟨g, j * 12 + 2, none⟩ = some (.int .i64 r.h.f2) ∧ w.cell? ⟨g, j * 12 + 3, none⟩ = some (.int .i64 r.h.f3) ∧ w.cell? ⟨g, j * 12 + 4, none⟩ = some (.int .i64 r.h.f4) ∧ w.cell? ⟨g, j * 12 + 5, none⟩ = some (.int .i64 r.h.f5) ∧ w.cell? ⟨g, j * 12 + 6, none⟩ = some (.int .i64 r.h.pair) ∧ w.cell? ⟨g, j * 12 + 7, none⟩ = some (.int .i64 r.h.pl) ∧ w.cell? ⟨g, j * 12 + 8, none⟩ = some (r.pv) ∧ w.cell? ⟨g, j * 12 + 9, none⟩ = some (.int .i64 r.h.fn) ∧ w.cell? ⟨g, j * 12 + 10, none⟩ = some (.int .i64 r.h.fl) ∧ w.cell? ⟨g, j * 12 + 11, none⟩ = some (r.fv) ∧ (∀ o, w.frozen? ⟨g, o, none⟩ = false) := by
 obtain ⟨h1, _, _, rs, hg, hr⟩ := h
 have hjr : j < rs.length := by rw [hr.1]; omega
 have hc : ∀ i, i < 12 → w.cell? ⟨g, j * 12 + i, none⟩ = (coCells (rs.getD j rawc0))[i]? := fun i hi => by
  rw [Lib.cell_of_heap hg, List.getElem?_toArray]; exact cosCells_get rs j i hjr hi
 exact ⟨rs.getD j rawc0, hc 0 (by omega), hc 1 (by omega), hc 2 (by omega), hc 3 (by omega), hc 4 (by omega), hc 5 (by omega), hc 6 (by omega), hc 7 (by omega), hc 8 (by omega), hc 9 (by omega), hc 10 (by omega), hc 11 (by omega), fun o => Lib.frozen_of_heap hg o⟩
/-- one of the row is written over -/
theorem RowO.set (h : RowO g B n w l) {j : Nat} (hj : j < n) {r : RawC} {c : Co} (hv : RawCo w (BlkO B g w) r c) : RowO g B n (setA w g (j * 12) r) (l.set j c) := by
 obtain ⟨h1, h2, h3, rs, hg, hr⟩ := h
 have hjr : j < rs.length := by rw [hr.1]; omega
 have hc : ∀ b o, BlkO B g w b → (setA w g (j * 12) r).cell? ⟨b, o, none⟩ = w.cell? ⟨b, o, none⟩ := fun b o hb => by
  have hne : b ≠ g := hb.2.2
  refine World.cell?_of_block ?_
  simp only [setA, World.setCell, Array.getElem?_modify, Ne.symm hne, if_false]
 have hl : ∀ b, BlkO B g w b → BlkO B g (setA w g (j * 12) r) b := fun b hb => ⟨hb.1, by simpa [setA, World.setCell] using hb.2.1, hb.2.2⟩
 refine ⟨by simpa using h1, h2, h3, rs.set j r, ?_, by simpa using hr.1, fun i hi => ?_⟩
 ·
  rw [cos_set hjr]
  simp [setA, World.setCell, Array.getElem?_modify, hg]
 ·
  rw [List.length_set] at hi
  by_cases e : j = i
  ·
   subst e
   have e1 : (rs.set j r).getD j rawc0 = r := by simp [List.getD_eq_getElem?_getD, hjr]
   have e2 : (l.set j c).getD j co0 = c := by simp [List.getD_eq_getElem?_getD, hi]
   rw [e1, e2]
   exact hv.mono hl hc
  ·
   have e1 : (rs.set j r).getD i rawc0 = rs.getD i rawc0 := by simp [List.getD_eq_getElem?_getD, e]
   have e2 : (l.set j c).getD i co0 = l.getD i co0 := by simp [List.getD_eq_getElem?_getD, e]
   rw [e1, e2]
   exact (hr.2 i hi).mono hl hc
theorem RowO.done (h : RowO g B n w l) : CoS w (Lc (Old B) w) (.slice (some ⟨g, 0, none⟩) n n) l := by
 have hlt := h.lt
 obtain ⟨h1, h2, h3, rs, hg, hr⟩ := h
 subst h1
 refine CoS.mk (rs := rs) ⟨hlt, fun hb => by unfold Old at hb; omega⟩ (by unfold maxLen; omega) (fun j hj => ?_) (hr.mono (fun b h => ⟨h.2.1, fun hb => by have := h.1; unfold Old at hb; omega⟩) fun _ _ _ => rfl) (Nat.le_refl _)
 intro i hi
 rw [Lib.cell_of_heap hg, List.getElem?_toArray, Nat.zero_add]; exact cosCells_get rs j i hj hi
theorem Stay.setG {N : Nat → Prop} {w0 : World} (h : Stay N w0 w) {p : Addr} (hp : w0.heap.size ≤ p.block) (x : Value) : Stay N w0 (w.setCell p x) :=
 ⟨h.os, h.tape, h.output, by simpa [World.setCell] using h.size, fun k hk hn => (Below.heap_setCell _ _ _ _ (fun e => by omega)).trans (h.block k hk hn)⟩
theorem Stay.setA {N : Nat → Prop} {w0 : World} {o : Nat} {r : RawC} (h : Stay N w0 w) (hg : w0.heap.size ≤ g) : Stay N w0 (setA w g o r) :=
 ((((((((((((h.setG (p := ⟨g, o, Option.none⟩) hg (.int .i64 r.h.f0)).setG (p := ⟨g, o + 1, Option.none⟩) hg (.int .i64 r.h.f1)).setG (p := ⟨g, o + 2, Option.none⟩) hg (.int .i64 r.h.f2)).setG (p := ⟨g, o + 3, Option.none⟩) hg (.int .i64 r.h.f3)).setG (p := ⟨g, o + 4, Option.none⟩) hg (.int .i64 r.h.f4)).setG (p := ⟨g, o + 5, Option.none⟩) hg (.int .i64 r.h.f5)).setG (p := ⟨g, o + 6, Option.none⟩) hg (.int .i64 r.h.pair)).setG (p := ⟨g, o + 7, Option.none⟩) hg (.int .i64 r.h.pl)).setG (p := ⟨g, o + 8, Option.none⟩) hg (r.pv)).setG (p := ⟨g, o + 9, Option.none⟩) hg (.int .i64 r.h.fn)).setG (p := ⟨g, o + 10, Option.none⟩) hg (.int .i64 r.h.fl)).setG (p := ⟨g, o + 11, Option.none⟩) hg (r.fv))
theorem Stay.setA2 {o : Nat} {r : RawC} (hg : B ≤ g) : Stay (fun b => B ≤ b) w (Go.Proofs.YtlalnkabfigodaaDoor.setA w g o r) :=
 (((((((((((((Stay.refl (N := fun b => B ≤ b) (a := w)).set (p := ⟨g, o, Option.none⟩) hg (.int .i64 r.h.f0)).set (p := ⟨g, o + 1, Option.none⟩) hg (.int .i64 r.h.f1)).set (p := ⟨g, o + 2, Option.none⟩) hg (.int .i64 r.h.f2)).set (p := ⟨g, o + 3, Option.none⟩) hg (.int .i64 r.h.f3)).set (p := ⟨g, o + 4, Option.none⟩) hg (.int .i64 r.h.f4)).set (p := ⟨g, o + 5, Option.none⟩) hg (.int .i64 r.h.f5)).set (p := ⟨g, o + 6, Option.none⟩) hg (.int .i64 r.h.pair)).set (p := ⟨g, o + 7, Option.none⟩) hg (.int .i64 r.h.pl)).set (p := ⟨g, o + 8, Option.none⟩) hg (r.pv)).set (p := ⟨g, o + 9, Option.none⟩) hg (.int .i64 r.h.fn)).set (p := ⟨g, o + 10, Option.none⟩) hg (.int .i64 r.h.fl)).set (p := ⟨g, o + 11, Option.none⟩) hg (r.fv))
end
theorem Tryd.infoCC : (Tryd.prog.info? 25).map (fun i => (i.zero, i.size, i.bytes)) = some (some (.agg #[.int .i64 0, .int .i64 0, .int .i64 0, .int .i64 0, .int .i64 0, .int .i64 0, .int .i64 0, .int .i64 0, .slice none 0 0, .int .i64 0, .int .i64 0, .slice none 0 0]), 12, 128) := by kernel_rfl
set_option maxRecDepth 100000 in
/-- 'make' of a row of coercions -/
theorem mkco_any (n : Nat) (hn : n ≤ 100000) (w : World) : (Instr.makeSlice 23 (.int .i64 n) (.int .i64 n)).run Tryd.prog w = .ok (.slice (some ⟨w.heap.size, 0, none⟩) n n) (w.alloc (.cells (cosCells (List.replicate n rawc0)).toArray 25)) := by
 obtain ⟨i0, hi, hz0, hz1, hz2⟩ := info_parts Tryd.infoCC
 have h := run_make w 23 25 i0 _ Tryd.underlying23 hi hz0 .i64 .i64 n n (by omega) (by omega) (by rw [hz2]; omega) (by omega)
 rw [h, hz1]
 have e : ((n : Int)).toNat = n := by omega
 rw [e]
 congr 4
 apply Array.ext_getElem?
 intro q
 refine Eq.trans ?_ (List.getElem?_toArray (xs := cosCells (List.replicate n rawc0)) (i := q)).symm
 by_cases hq : q < n * 12
 ·
  have h1 := cosCells_get (List.replicate n rawc0) (q / 12) (q % 12) (by simp; omega) (Nat.mod_lt _ (by omega))
  rw [show q / 12 * 12 + q % 12 = q by omega] at h1
  have e0 : (List.replicate n rawc0).getD (q / 12) rawc0 = rawc0 := by simp [List.getD_eq_getElem?_getD, List.getElem?_replicate]; split <;> rfl
  rw [h1, e0]
  simp [madeCells, Value.cells, hq, coCells, rawc0, hd0]
  rcases (by omega : q % 12 = 0 ∨ q % 12 = 1 ∨ q % 12 = 2 ∨ q % 12 = 3 ∨ q % 12 = 4 ∨ q % 12 = 5 ∨ q % 12 = 6 ∨ q % 12 = 7 ∨ q % 12 = 8 ∨ q % 12 = 9 ∨ q % 12 = 10 ∨ q % 12 = 11) with h | h | h | h | h | h | h | h | h | h | h | h <;> simp [h]
 ·
  rw [List.getElem?_eq_none (by rw [cosCells_len]; simp; omega)]
  simp [madeCells, hq]
theorem RowO.made (n : Nat) (hn : n ≤ 1000) (w : World) : RowO w.heap.size w.heap.size n (w.alloc (.cells (cosCells (List.replicate n rawc0)).toArray 25)) (List.replicate n co0) := by
 refine ⟨by simp, hn, Nat.le_refl _, List.replicate n rawc0, heap_alloc_new _ _, by simp, fun j hj => ?_⟩
 have hj2 : j < n := by simpa using hj
 have e0 : (List.replicate n rawc0).getD j rawc0 = rawc0 := by simp [List.getD_eq_getElem?_getD, hj2]
 have e1 : (List.replicate n co0).getD j co0 = co0 := by simp [List.getD_eq_getElem?_getD, hj2]
 rw [e0, e1]
 exact ⟨rfl, .mkNil _ _, .mkNil _ _⟩
theorem CoVN.raw12 {N : Nat → Prop} {w : World} {v : Value} {c : Co} (hv : CoVN N w v c) : ∃ r : RawC, v = coV r ∧ RawCo w (Lc N w) r c := hv

set_option maxRecDepth 100000 in
set_option maxHeartbeats 16000000 in
theorem eachc_any {σ : Type} {N : Nat → Prop} {St : σ → World → Prop} {k : Nat} {lb : Array Value} {W0 : World} {Pre : Co → σ → Prop} {Fm : Co → Co} {Rel : Co → σ → σ → Prop} (F : FnV (CoVN N) N St k lb W0 Pre (fun w w' v x => CoVN (Old w.heap.size) w' v (Fm x)) Rel)
  (hk2 : ∀ s w w', St s w → Stay (fun b => W0.heap.size ≤ b) w w' → St s w') (hN : ∀ b, N b → b < W0.heap.size)
  (l : List Co) (a1 : Option Addr) (c1 : Nat) (w : World) (s : σ) (hw : Stay N W0 w) (hst : St s w) (hl : CoS w (Lc N w) (.slice a1 l.length c1) l) (hlen : l.length ≤ 100)
  (hpre : ∀ j s', j < l.length → ChainR co0 Rel l j s s' → Pre (l.getD j co0) s') :
  Calls Tryd.prog 96 #[.slice a1 l.length c1, .func (.func k) #[] lb] w
   fun e w' => (∃ v, e = .returned v ∧ CoS w' (Lc (Old w.heap.size) w') v (l.map Fm)) ∧ Stay N w w' ∧ ∃ s', ChainR co0 Rel l l.length s s' ∧ St s' w' := by
 obtain ⟨nl, hnl⟩ : ∃ n, n = l.length := ⟨_, rfl⟩
 rw [← hnl] at hl hpre hlen ⊢
 have eg := F.enter
 have hle : (nl : Int) ≤ 100 := by omega
 have HF := hid F
 have HNL := hid hnl
 have HL := hid hl
 have HP := hid hpre
 have HW := hid hw
 have HS := hid hst
 have HK := hid hk2
 have HN := hid hN
 have HLE := hid hlen
 clear F hnl hl hpre hw hst hk2 hN hlen
 by_cases h0 : nl = 0
 case pos =>
  have HL0 := hid (show l = [] from List.length_eq_zero_iff.1 (by rw [← HNL.out]; exact h0))
  subst h0
  go_enter Tryd.func96, Tryd.ntmps96
  go_wp2
  go_ret
  refine ⟨⟨_, rfl, ?_⟩, .refl, s, rfl, HS.out⟩
  rw [HL0.out]; exact .mkNil _ _
 have h1 : ((nl : Int) == 0) = false := beq_false_of_ne (by omega)
 have h00 : (0 : Int) ≤ (nl : Int) := by omega
 have hmk := mkco_any nl (by omega) w
 obtain ⟨W, hW⟩ : ∃ W, W = w.alloc (.cells (cosCells (List.replicate nl rawc0)).toArray 25) := ⟨_, rfl⟩
 rw [← hW] at hmk
 have HROW := hid (show RowO w.heap.size w.heap.size nl W (List.replicate nl co0) by rw [hW]; exact RowO.made nl (by have := HLE.out; omega) w)
 have HBW := hid (show Below w.heap.size w W by rw [hW]; exact bAl _ _)
 have HH0 := hid h0
 clear hW h0
 obtain ⟨g, hg⟩ : ∃ g, g = w.heap.size := ⟨_, rfl⟩
 rw [← hg] at hmk
 have HG := hid hg
 clear hg
 go_enter Tryd.func96, Tryd.ntmps96
 go_wp2
 go_loopw [6, 16] (fun _ i wr => ∃ j : Nat, j ≤ nl ∧ i = .int .i64 j ∧ Hid (∃ L, RowO g w.heap.size nl wr L ∧ ∀ i, i < j → L.getD i co0 = Fm (l.getD i co0)) ∧ Hid (Stay N w wr) ∧ Hid (∃ s', ChainR co0 Rel l j s s' ∧ St s' wr)) (fun _ i _ => nl - (intOf i).toNat)
 case atStart => exact ⟨0, Nat.zero_le _, rfl, hid ⟨_, by rw [HG.out]; exact HROW.out, fun j hj => absurd hj (Nat.not_lt_zero _)⟩, hid (.of HBW.out), hid ⟨s, rfl, HF.out.keep _ _ _ HS.out HBW.out⟩⟩
 case round =>
  obtain ⟨j, hj, rfl, HA, HB, HT⟩ := hrel
  by_cases hgo : j < nl
  ·
   have hkl : j < l.length := by rw [← HNL.out]; exact hgo
   obtain ⟨d, hd⟩ : ∃ d, l.getD j co0 = d := ⟨_, rfl⟩
   obtain ⟨b, off, p1, c1', p2, c2', rfl, hb', ⟨e0, e1, e2, e3, e4, e5, e6, e7, e8, e9, e10, e11⟩, hv⟩ := CoSN.elem (CoSN.stay HL.out HB.out) hkl hd
   obtain ⟨s1, hn1, hs1⟩ := HT.out
   have hRR : Pre d s1 := by have := HP.out j s1 (by omega) hn1; rwa [hd] at this
   have C : ∀ w1, Below wr.heap.size wr w1 → Calls Tryd.prog k (#[.agg #[.int .i64 d.h.f0, .int .i64 d.h.f1, .int .i64 d.h.f2, .int .i64 d.h.f3, .int .i64 d.h.f4, .int .i64 d.h.f5, .int .i64 d.h.pair, .int .i64 d.h.pl, .slice p1 d.pairs.length c1', .int .i64 d.h.fn, .int .i64 d.h.fl, .slice p2 d.funs.length c2']] ++ lb) w1
     fun e' w' => (∃ v, e' = .returned v ∧ CoVN (Old w1.heap.size) w' v (Fm d)) ∧ Stay N w w' ∧ Stay N wr w' ∧ (∃ s', ChainR co0 Rel l (j + 1) s s' ∧ St s' w') := fun w1 h1 => by
    have hs := HB.out.then h1
    refine (HF.out.call w1 _ d s1 (HW.out.trans hs) (HF.out.keep _ _ _ hs1 h1) hRR (hv.below h1)).mono ?_
    rintro e' w' ⟨⟨v, h2, h2'⟩, h3, s', h4, h5⟩
    exact ⟨⟨v, h2, h2'⟩, hs.trans h3, (Stay.of h1).trans h3, s', ⟨s1, hn1, by rw [hd]; exact h4⟩, h5⟩
   obtain ⟨q1, hq1⟩ : ∃ q, q = d.pairs.length := ⟨_, rfl⟩
   obtain ⟨q2, hq2⟩ : ∃ q, q = d.funs.length := ⟨_, rfl⟩
   rw [← hq1] at e8 C
   rw [← hq2] at e11 C
   have HC2 := hid C
   have HD := hid hd
   have hlt : (j : Int) < nl := by omega
   have hj0 : (0 : Int) ≤ (j : Int) := by omega
   have HKL := hid hgo
   clear hd hv C hq1 hq2 hgo hj hkl hRR hn1 HT hs1
   go_wp2_with fail
   refine (HC2.out _ (bAl _ _)).mono ?_
   rintro e' w2 ⟨⟨v, rfl, hv⟩, hst2, hstr, hnx⟩
   obtain ⟨fd, hfd⟩ : ∃ c, c = Fm d := ⟨_, rfl⟩
   rw [← hfd] at hv
   obtain ⟨ra, rc, rb, rd, rfl, _, _⟩ := hv.form
   have hr := CoVN.raw (h := fd.h) hv
   obtain ⟨rn, hrn⟩ : ∃ n, n = fd.pairs.length := ⟨_, rfl⟩
   obtain ⟨rm, hrm⟩ : ∃ n, n = fd.funs.length := ⟨_, rfl⟩
   rw [← hrn, ← hrm] at hr ⊢
   have HFD := hid hfd
   clear hfd hrn hrm
   obtain ⟨L, hrow, hLL⟩ := HA.out
   have hrow2 := hrow.stay hstr (fun b hb => by have := HN.out b hb; have := HW.out.size; omega)
   have HR := hid (show RawCo w2 (BlkO w.heap.size g w2) ⟨fd.h, .slice ra rn rc, .slice rb rm rd⟩ fd from hr.mono (fun b hb => ⟨by have := HB.out.size; have := hb.2; unfold Old at this; simp only [alloc_hs7] at this; omega, hb.1, by have := hrow.lt; have := hb.2; unfold Old at this; simp only [alloc_hs7] at this; omega⟩) fun _ _ _ => rfl)
   obtain ⟨r', c0, c1, c2, c3, c4, c5, c6, c7, c8, c9, c10, c11, hfz⟩ := hrow2.get HKL.out
   have z0 := hfz (j * 12)
   have z1 := hfz (j * 12 + 1)
   have z2 := hfz (j * 12 + 2)
   have z3 := hfz (j * 12 + 3)
   have z4 := hfz (j * 12 + 4)
   have z5 := hfz (j * 12 + 5)
   have z6 := hfz (j * 12 + 6)
   have z7 := hfz (j * 12 + 7)
   have z8 := hfz (j * 12 + 8)
   have z9 := hfz (j * 12 + 9)
   have z10 := hfz (j * 12 + 10)
   have z11 := hfz (j * 12 + 11)
   have HROW2 := hid hrow2
   have HLL := hid hLL
   have HB2 := hid hst2
   have HN2 := hid hnx
   clear hst2 hnx hr hv hrow hrow2 hLL hfz hstr HA
   go_wp2
   refine ⟨⟨j + 1, by have := HKL.out; omega, by go_num, ?_, ?_, ?_⟩, by have := HKL.out; simp [intOf]; omega⟩
   ·
    have hset := RowO.set (r := ⟨fd.h, .slice ra rn rc, .slice rb rm rd⟩) (c := fd) HROW2.out HKL.out HR.out
    refine hid ⟨L.set j fd, hset, fun i hi => ?_⟩
    have hLn := HROW2.out.1
    by_cases e : i = j
    ·
     rw [e, HD.out, ← HFD.out]; simp [List.getD_eq_getElem?_getD, hLn, HKL.out]
    ·
     rw [← HLL.out i (by omega)]; simp [List.getD_eq_getElem?_getD, Ne.symm e]
   ·
    exact hid (Stay.setA (o := j * 12) (r := ⟨fd.h, .slice ra rn rc, .slice rb rm rd⟩) HB2.out (by rw [HG.out]; exact Nat.le_refl _))
   ·
    refine hid ?_
    obtain ⟨s', h1, h2⟩ := HN2.out
    exact ⟨s', h1, HK.out s' w2 _ h2 (Stay.setA2 (o := j * 12) (r := ⟨fd.h, .slice ra rn rc, .slice rb rm rd⟩) (by rw [HG.out]; exact HW.out.size))⟩
  ·
   have hlt : ¬ (j : Int) < nl := by omega
   have hjn : j = nl := by omega
   have HJ := hid hjn
   clear hgo hj hjn
   go_wp2
   go_ret
   obtain ⟨L, hrow, hLL⟩ := HA.out
   refine ⟨⟨_, rfl, ?_⟩, HB.out, by obtain ⟨s', h1, h2⟩ := HT.out; exact ⟨s', by rw [← HJ.out]; exact h1, h2⟩⟩
   have e : L = l.map Fm := by
    refine List.ext_getElem (by rw [hrow.1, List.length_map, HNL.out]) fun i h1 h2 => ?_
    have h3 := hLL i (by rw [HJ.out]; rw [hrow.1] at h1; exact h1)
    have h4 : i < l.length := by simpa using h2
    simpa [List.getD_eq_getElem?_getD, h1, h4] using h3
   rw [← e]; exact hrow.done

set_option maxRecDepth 100000 in
set_option maxHeartbeats 16000000 in
theorem eacht_any {σ : Type} {N : Nat → Prop} {St : σ → World → Prop} {k : Nat} {lb : Array Value} {W0 : World} {Pre : Ty → σ → Prop} {Fm : Ty → Co} {Rel : Ty → σ → σ → Prop} (F : FnV (TyVN N) N St k lb W0 Pre (fun w w' v x => CoVN (Old w.heap.size) w' v (Fm x)) Rel)
  (hk2 : ∀ s w w', St s w → Stay (fun b => W0.heap.size ≤ b) w w' → St s w') (hN : ∀ b, N b → b < W0.heap.size)
  (l : List Ty) (a1 : Option Addr) (c1 : Nat) (w : World) (s : σ) (hw : Stay N W0 w) (hst : St s w) (hl : TyS w (Lo N w) (.slice a1 l.length c1) l) (hlen : l.length ≤ 100)
  (hpre : ∀ j s', j < l.length → ChainR ty0 Rel l j s s' → Pre (l.getD j ty0) s') :
  Calls Tryd.prog 94 #[.slice a1 l.length c1, .func (.func k) #[] lb] w
   fun e w' => (∃ v, e = .returned v ∧ CoS w' (Lc (Old w.heap.size) w') v (l.map Fm)) ∧ Stay N w w' ∧ ∃ s', ChainR ty0 Rel l l.length s s' ∧ St s' w' := by
 obtain ⟨nl, hnl⟩ : ∃ n, n = l.length := ⟨_, rfl⟩
 rw [← hnl] at hl hpre hlen ⊢
 have eg := F.enter
 have hle : (nl : Int) ≤ 100 := by omega
 have HF := hid F
 have HNL := hid hnl
 have HL := hid hl
 have HP := hid hpre
 have HW := hid hw
 have HS := hid hst
 have HK := hid hk2
 have HN := hid hN
 have HLE := hid hlen
 clear F hnl hl hpre hw hst hk2 hN hlen
 by_cases h0 : nl = 0
 case pos =>
  have HL0 := hid (show l = [] from List.length_eq_zero_iff.1 (by rw [← HNL.out]; exact h0))
  subst h0
  go_enter Tryd.func94, Tryd.ntmps94
  go_wp2
  go_ret
  refine ⟨⟨_, rfl, ?_⟩, .refl, s, rfl, HS.out⟩
  rw [HL0.out]; exact .mkNil _ _
 have h1 : ((nl : Int) == 0) = false := beq_false_of_ne (by omega)
 have h00 : (0 : Int) ≤ (nl : Int) := by omega
 have hmk := mkco_any nl (by omega) w
 obtain ⟨W, hW⟩ : ∃ W, W = w.alloc (.cells (cosCells (List.replicate nl rawc0)).toArray 25) := ⟨_, rfl⟩
 rw [← hW] at hmk
 have HROW := hid (show RowO w.heap.size w.heap.size nl W (List.replicate nl co0) by rw [hW]; exact RowO.made nl (by have := HLE.out; omega) w)
 have HBW := hid (show Below w.heap.size w W by rw [hW]; exact bAl _ _)
 have HH0 := hid h0
 clear hW h0
 obtain ⟨g, hg⟩ : ∃ g, g = w.heap.size := ⟨_, rfl⟩
 rw [← hg] at hmk
 have HG := hid hg
 clear hg
 go_enter Tryd.func94, Tryd.ntmps94
 go_wp2
 go_loopw [6, 16] (fun _ i wr => ∃ j : Nat, j ≤ nl ∧ i = .int .i64 j ∧ Hid (∃ L, RowO g w.heap.size nl wr L ∧ ∀ i, i < j → L.getD i co0 = Fm (l.getD i ty0)) ∧ Hid (Stay N w wr) ∧ Hid (∃ s', ChainR ty0 Rel l j s s' ∧ St s' wr)) (fun _ i _ => nl - (intOf i).toNat)
 case atStart => exact ⟨0, Nat.zero_le _, rfl, hid ⟨_, by rw [HG.out]; exact HROW.out, fun j hj => absurd hj (Nat.not_lt_zero _)⟩, hid (.of HBW.out), hid ⟨s, rfl, HF.out.keep _ _ _ HS.out HBW.out⟩⟩
 case round =>
  obtain ⟨j, hj, rfl, HA, HB, HT⟩ := hrel
  by_cases hgo : j < nl
  ·
   have hkl : j < l.length := by rw [← HNL.out]; exact hgo
   obtain ⟨d, hd⟩ : ∃ d, l.getD j ty0 = d := ⟨_, rfl⟩
   obtain ⟨b, off, p1, c1', p2, c2', rfl, hb', e0, e1, e2, e3, e4, e5, hv⟩ := TySN.elem (TySN.stay HL.out HB.out) hkl hd
   obtain ⟨s1, hn1, hs1⟩ := HT.out
   have hRR : Pre d s1 := by have := HP.out j s1 (by omega) hn1; rwa [hd] at this
   have C : ∀ w1, Below wr.heap.size wr w1 → Calls Tryd.prog k (#[.agg #[.bool d.all, .int .i64 d.flat, .int .i64 d.pair, .slice p1 d.pairs.length c1', .int .i64 d.fn, .slice p2 d.funs.length c2']] ++ lb) w1
     fun e' w' => (∃ v, e' = .returned v ∧ CoVN (Old w1.heap.size) w' v (Fm d)) ∧ Stay N w w' ∧ Stay N wr w' ∧ (∃ s', ChainR ty0 Rel l (j + 1) s s' ∧ St s' w') := fun w1 h1 => by
    have hs := HB.out.then h1
    refine (HF.out.call w1 _ d s1 (HW.out.trans hs) (HF.out.keep _ _ _ hs1 h1) hRR (hv.below h1)).mono ?_
    rintro e' w' ⟨⟨v, h2, h2'⟩, h3, s', h4, h5⟩
    exact ⟨⟨v, h2, h2'⟩, hs.trans h3, (Stay.of h1).trans h3, s', ⟨s1, hn1, by rw [hd]; exact h4⟩, h5⟩
   obtain ⟨q1, hq1⟩ : ∃ q, q = d.pairs.length := ⟨_, rfl⟩
   obtain ⟨q2, hq2⟩ : ∃ q, q = d.funs.length := ⟨_, rfl⟩
   rw [← hq1] at e3 C
   rw [← hq2] at e5 C
   have HC2 := hid C
   have HD := hid hd
   have hlt : (j : Int) < nl := by omega
   have hj0 : (0 : Int) ≤ (j : Int) := by omega
   have HKL := hid hgo
   clear hd hv C hq1 hq2 hgo hj hkl hRR hn1 HT hs1
   go_wp2_with fail
   refine (HC2.out _ (bAl _ _)).mono ?_
   rintro e' w2 ⟨⟨v, rfl, hv⟩, hst2, hstr, hnx⟩
   obtain ⟨fd, hfd⟩ : ∃ c, c = Fm d := ⟨_, rfl⟩
   rw [← hfd] at hv
   obtain ⟨ra, rc, rb, rd, rfl, _, _⟩ := hv.form
   have hr := CoVN.raw (h := fd.h) hv
   obtain ⟨rn, hrn⟩ : ∃ n, n = fd.pairs.length := ⟨_, rfl⟩
   obtain ⟨rm, hrm⟩ : ∃ n, n = fd.funs.length := ⟨_, rfl⟩
   rw [← hrn, ← hrm] at hr ⊢
   have HFD := hid hfd
   clear hfd hrn hrm
   obtain ⟨L, hrow, hLL⟩ := HA.out
   have hrow2 := hrow.stay hstr (fun b hb => by have := HN.out b hb; have := HW.out.size; omega)
   have HR := hid (show RawCo w2 (BlkO w.heap.size g w2) ⟨fd.h, .slice ra rn rc, .slice rb rm rd⟩ fd from hr.mono (fun b hb => ⟨by have := HB.out.size; have := hb.2; unfold Old at this; simp only [alloc_hs7] at this; omega, hb.1, by have := hrow.lt; have := hb.2; unfold Old at this; simp only [alloc_hs7] at this; omega⟩) fun _ _ _ => rfl)
   obtain ⟨r', c0, c1, c2, c3, c4, c5, c6, c7, c8, c9, c10, c11, hfz⟩ := hrow2.get HKL.out
   have z0 := hfz (j * 12)
   have z1 := hfz (j * 12 + 1)
   have z2 := hfz (j * 12 + 2)
   have z3 := hfz (j * 12 + 3)
   have z4 := hfz (j * 12 + 4)
   have z5 := hfz (j * 12 + 5)
   have z6 := hfz (j * 12 + 6)
   have z7 := hfz (j * 12 + 7)
   have z8 := hfz (j * 12 + 8)
   have z9 := hfz (j * 12 + 9)
   have z10 := hfz (j * 12 + 10)
   have z11 := hfz (j * 12 + 11)
   have HROW2 := hid hrow2
   have HLL := hid hLL
   have HB2 := hid hst2
   have HN2 := hid hnx
   clear hst2 hnx hr hv hrow hrow2 hLL hfz hstr HA
   go_wp2
   refine ⟨⟨j + 1, by have := HKL.out; omega, by go_num, ?_, ?_, ?_⟩, by have := HKL.out; simp [intOf]; omega⟩
   ·
    have hset := RowO.set (r := ⟨fd.h, .slice ra rn rc, .slice rb rm rd⟩) (c := fd) HROW2.out HKL.out HR.out
    refine hid ⟨L.set j fd, hset, fun i hi => ?_⟩
    have hLn := HROW2.out.1
    by_cases e : i = j
    ·
     rw [e, HD.out, ← HFD.out]; simp [List.getD_eq_getElem?_getD, hLn, HKL.out]
    ·
     rw [← HLL.out i (by omega)]; simp [List.getD_eq_getElem?_getD, Ne.symm e]
   ·
    exact hid (Stay.setA (o := j * 12) (r := ⟨fd.h, .slice ra rn rc, .slice rb rm rd⟩) HB2.out (by rw [HG.out]; exact Nat.le_refl _))
   ·
    refine hid ?_
    obtain ⟨s', h1, h2⟩ := HN2.out
    exact ⟨s', h1, HK.out s' w2 _ h2 (Stay.setA2 (o := j * 12) (r := ⟨fd.h, .slice ra rn rc, .slice rb rm rd⟩) (by rw [HG.out]; exact HW.out.size))⟩
  ·
   have hlt : ¬ (j : Int) < nl := by omega
   have hjn : j = nl := by omega
   have HJ := hid hjn
   clear hgo hj hjn
   go_wp2
   go_ret
   obtain ⟨L, hrow, hLL⟩ := HA.out
   refine ⟨⟨_, rfl, ?_⟩, HB.out, by obtain ⟨s', h1, h2⟩ := HT.out; exact ⟨s', by rw [← HJ.out]; exact h1, h2⟩⟩
   have e : L = l.map Fm := by
    refine List.ext_getElem (by rw [hrow.1, List.length_map, HNL.out]) fun i h1 h2 => ?_
    have h3 := hLL i (by rw [HJ.out]; rw [hrow.1] at h1; exact h1)
    have h4 : i < l.length := by simpa using h2
    simpa [List.getD_eq_getElem?_getD, h1, h4] using h3
   rw [← e]; exact hrow.done
end Go.Proofs.YtlalnkabfigodaaDoor
