import Derived.Test.YtlalnkabfigodaaDoorCoC4
import Derived.Test.YtlalnkabfigodaaDoorCoGo
namespace Go.Proofs.YtlalnkabfigodaaDoor
open Go.Lib (hid)
open Go.RowKit

/-- the blames at once, of which so many are composed -/
def mixR (c d : Co) (j : Nat) : Hd := ⟨if 0 < j then eithC c.h.f0 d.h.f0 else 0, if 1 < j then eithC c.h.f1 d.h.f1 else 0, if 2 < j then eithC c.h.f2 d.h.f2 else 0, if 3 < j then eithC c.h.f3 d.h.f3 else 0, if 4 < j then eithC c.h.f4 d.h.f4 else 0, if 5 < j then eithC c.h.f5 d.h.f5 else 0, 0, 0, 0, 0⟩
def mixE (c d : Co) (p pl fn fl : Int) : Hd := ⟨eithC c.h.f0 d.h.f0, eithC c.h.f1 d.h.f1, eithC c.h.f2 d.h.f2, eithC c.h.f3 d.h.f3, eithC c.h.f4 d.h.f4, eithC c.h.f5 d.h.f5, p, pl, fn, fl⟩
theorem mixR_store {c d : Co} {i g : Nat} {w : World} {T : TypeId} {a b : Value} {p q : Int} (hi : i < 6) (hp : p = c.h.flat.getD i 0) (hq : q = d.h.flat.getD i 0) (h : CBox w g T ⟨mixR c d i, a, b⟩) : CBox (w.setCell ⟨g, i, none⟩ (.int .i64 (eithC p q))) g T ⟨mixR c d (i + 1), a, b⟩ := by
 subst hp hq
 obtain rfl | rfl | rfl | rfl | rfl | rfl : i = 0 ∨ i = 1 ∨ i = 2 ∨ i = 3 ∨ i = 4 ∨ i = 5 := by omega
 ·
  exact h.s0 (x := eithC c.h.f0 d.h.f0)
 ·
  exact h.s1 (x := eithC c.h.f1 d.h.f1)
 ·
  exact h.s2 (x := eithC c.h.f2 d.h.f2)
 ·
  exact h.s3 (x := eithC c.h.f3 d.h.f3)
 ·
  exact h.s4 (x := eithC c.h.f4 d.h.f4)
 ·
  exact h.s5 (x := eithC c.h.f5 d.h.f5)
theorem But.set12 (g : Nat) (w : World) (r : RawC) : But g w (Go.Proofs.YtlalnkabfigodaaDoor.set12 w g r) := (((((((((((((But.refl g w).set 0 (.int .i64 r.h.f0)).set 1 (.int .i64 r.h.f1)).set 2 (.int .i64 r.h.f2)).set 3 (.int .i64 r.h.f3)).set 4 (.int .i64 r.h.f4)).set 5 (.int .i64 r.h.f5)).set 6 (.int .i64 r.h.pair)).set 7 (.int .i64 r.h.pl)).set 8 r.pv).set 9 (.int .i64 r.h.fn)).set 10 (.int .i64 r.h.fl)).set 11 r.fv)
theorem plen_of {c : Co} (h : okC c ∧ 2 ≤ c.h.pair) : (2 ≤ c.h.pair → 1 ≤ c.pairs.length) ∧ (c.h.pair = 2 → 2 ≤ c.pairs.length) := ⟨fun h2 => (plen1 h.1.shape h2).1, fun h2 => (plen1 h.1.shape (by omega)).2 h2⟩
theorem le_max7 {n : Nat} (h : n ≤ 100) : n ≤ maxLen := by unfold maxLen; omega
theorem own_whole {w : World} {g e base sz n : Nat} {cur : Array Value} {xs : List Value} (h : w.heap[g]? = some (.cells cur e (0, 0))) (hb : base ≤ g) (hs : cur.size = n * sz) (hn : n ≤ maxLen) (hx : cur.toList = xs) : w.ownsRow base e sz (.slice (some ⟨g, 0, none⟩) n n) n xs := by
 subst hx
 refine ⟨by simpa using hs, .inr ⟨g, n, cur, rfl, hb, h, Nat.le_refl _, hn, hs, List.take_of_length_le (by simp [hs])⟩⟩
theorem RowC.one {T : TypeId} {N : Nat → Prop} {B : Nat} {w : World} {r : RawC} {d : Co} (hB : B ≤ w.heap.size) (h : RawCo w (Lc N w) r d) : RowC T N B (w.alloc (.cells #[.int .i64 r.h.f0, .int .i64 r.h.f1, .int .i64 r.h.f2, .int .i64 r.h.f3, .int .i64 r.h.f4, .int .i64 r.h.f5, .int .i64 r.h.pair, .int .i64 r.h.pl, r.pv, .int .i64 r.h.fn, .int .i64 r.h.fl, r.fv] T)) (.slice (some ⟨w.heap.size, 0, none⟩) 1 1) [d] := by
 refine ⟨[r], own_whole (heap_alloc_new _ _) hB rfl (by unfold maxLen; omega) (by simp [cosCells, coCells]), rfl, fun j hj => ?_⟩
 obtain rfl : j = 0 := by simp at hj; omega
 refine h.mono (fun b hb => ⟨⟨by have := hb.1; simp; omega, hb.2⟩, fun e => ?_⟩) fun b o hb => World.cell?_of_block (Below.heap_alloc w _ b hb.1)
 simp only [Value.ownBlock, Option.some.injEq] at e
 have := hb.1
 omega
theorem CellsC.cs {w : World} {b o : Nat} {r : RawC} (h : CellsC w b o r) : w.cell? ⟨b, o, none⟩ = some (.int .i64 r.h.f0) ∧ w.cell? ⟨b, o + 1, none⟩ = some (.int .i64 r.h.f1) ∧ w.cell? ⟨b, o + 2, none⟩ = some (.int .i64 r.h.f2) ∧ w.cell? ⟨b, o + 3, none⟩ = some (.int .i64 r.h.f3) ∧ w.cell? ⟨b, o + 4, none⟩ = some (.int .i64 r.h.f4) ∧ w.cell? ⟨b, o + 5, none⟩ = some (.int .i64 r.h.f5) ∧ w.cell? ⟨b, o + 6, none⟩ = some (.int .i64 r.h.pair) ∧ w.cell? ⟨b, o + 7, none⟩ = some (.int .i64 r.h.pl) ∧ w.cell? ⟨b, o + 8, none⟩ = some (r.pv) ∧ w.cell? ⟨b, o + 9, none⟩ = some (.int .i64 r.h.fn) ∧ w.cell? ⟨b, o + 10, none⟩ = some (.int .i64 r.h.fl) ∧ w.cell? ⟨b, o + 11, none⟩ = some (r.fv) := ⟨h 0 (by omega), h 1 (by omega), h 2 (by omega), h 3 (by omega), h 4 (by omega), h 5 (by omega), h 6 (by omega), h 7 (by omega), h 8 (by omega), h 9 (by omega), h 10 (by omega), h 11 (by omega)⟩
theorem CellsC.but {w w' : World} {b o g : Nat} {r : RawC} (h : CellsC w b o r) (k : But g w w') (hb : b < w.heap.size) (hn : b ≠ g) : CellsC w' b o r := h.mono fun j => k.cell (p := ⟨b, j, none⟩) hb hn
theorem CoSN.elem3 {N : Nat → Prop} {w : World} {l : List Co} {pa : Option Addr} {n k : Nat} {d : Co} (h : CoS w (Lc N w) (.slice pa n k) l) {j : Nat} (hj : j < l.length) (hd : l.getD j co0 = d) : ∃ b off p1 c1 p2 c2, pa = some ⟨b, off, none⟩ ∧ Lc N w b ∧ CellsC w b (off + j * 12) ⟨d.h, .slice p1 d.pairs.length c1, .slice p2 d.funs.length c2⟩ ∧ CoVN N w (coV ⟨d.h, .slice p1 d.pairs.length c1, .slice p2 d.funs.length c2⟩) d := by
 obtain ⟨b, off, r, hp, hb, hc, hr⟩ := h.at hj
 rw [hd] at hr
 obtain ⟨hh, pv, fv⟩ := r
 obtain ⟨h1, h5, h6⟩ := hr
 simp only at h1 h5 h6
 obtain ⟨p1, c1, rfl⟩ := h5.val
 obtain ⟨p2, c2, rfl⟩ := h6.val
 subst h1
 exact ⟨b, off, p1, c1, p2, c2, hp, hb, hc, ⟨_, rfl, rfl, h5, h6⟩⟩
structure RmS (w W : World) (cr dr o : RawC) : Prop where
 x : CBox W w.heap.size 30 cr
 y : CBox W (w.heap.size + 1) 30 dr
 r : CBox W (w.heap.size + 2) 30 ⟨⟨0, 0, 0, 0, 0, 0, 0, 0, 0, 0⟩, .slice none 0 0, .slice none 0 0⟩
 o : CBox W (w.heap.size + 3) 30 o
 low : Below w.heap.size w W
theorem RmS.keep {w W W' : World} {cr dr o : RawC} (h : RmS w W cr dr o) (hb : Below W.heap.size W W') : RmS w W' cr dr o := ⟨h.x.keep hb, h.y.keep hb, h.r.keep hb, h.o.keep hb, h.low.trans (hb.mono h.low.size)⟩
theorem RmS.but {w W W' : World} {cr dr o o' : RawC} (h : RmS w W cr dr o) (k : But (w.heap.size + 3) W W') (ho : CBox W' (w.heap.size + 3) 30 o') : RmS w W' cr dr o' := ⟨h.x.but k (by omega), h.y.but k (by omega), h.r.but k (by omega), ho, h.low.trans (k.below (by omega) h.low.size)⟩
theorem RmS.far {w W W' : World} {cr dr o : RawC} {g : Nat} (h : RmS w W cr dr o) (hg : w.heap.size + 4 ≤ g) (k : But g W W') : RmS w W' cr dr o := ⟨h.x.but k (by omega), h.y.but k (by omega), h.r.but k (by omega), h.o.but k (by omega), h.low.trans (k.below (by omega) h.low.size)⟩
def RmOK (n : Nat) : Prop := ∀ (c d : Co) (vc vd : Value) (w : World) (N : Nat → Prop), okC c → okC d → htC c + htC d ≤ n → (∀ b, N b → b < w.heap.size) → CoVN N w vc c → CoVN N w vd d → Calls Tryd.prog 36 #[vc, vd] w (CoPost N (compF n c d) w)

set_option maxRecDepth 100000 in
set_option maxHeartbeats 64000000 in
theorem rm_succ (n : Nat) (ih : RmOK n) : RmOK (n + 1) := by
 intro c d vc vd w N oc od hht hN hc hd
 obtain ⟨i0, hi, hz0, hz1, hz2⟩ := info_parts Tryd.infoCR
 have sc := oc.shape
 have sd := od.shape
 have h1 := headC_own oc.head
 have h2 := headC_own od.head
 have hpe := compP_eq n h1.1 h2.1
 have hfe := compFn_eq n h1.2.1 h2.2.1
 have hRQ := comp_eq n oc od
 obtain ⟨P, hP⟩ : ∃ P, P = compP n c d := ⟨_, rfl⟩
 obtain ⟨F, hF⟩ : ∃ F, F = compFn n c d := ⟨_, rfl⟩
 rw [← hP] at hpe hRQ
 rw [← hF] at hfe hRQ
 obtain ⟨un, hun⟩ : ∃ x, x = P.2.2.length := ⟨_, rfl⟩
 obtain ⟨vn, hvn⟩ : ∃ x, x = F.2.2.length := ⟨_, rfl⟩
 have hca : 2 ≤ c.h.pair → 2 ≤ d.h.pair → ∀ (w1 : World) (u v : Value) (N' : Nat → Prop), (∀ b, N' b → b < w1.heap.size) → CoVN N' w1 u (carC c) → CoVN N' w1 v (carC d) → Calls Tryd.prog 36 #[u, v] w1 (CoPost N' (compF n (carC c) (carC d)) w1) := fun h2 h3 w1 u v N' h4 h5 h6 => by
  have a1 := shape_car sc h2
  have a2 := shape_car sd h3
  exact ih (carC c) (carC d) u v w1 N' (ok_car oc h2) (ok_car od h3) (by omega) h4 h5 h6
 have hcb : 2 ≤ c.h.pair → 2 ≤ d.h.pair → ¬ (c.h.pair = 3 ∧ d.h.pair = 3) → ∀ (w1 : World) (u v : Value) (N' : Nat → Prop), (∀ b, N' b → b < w1.heap.size) → CoVN N' w1 u (cdrC c) → CoVN N' w1 v (cdrC d) → Calls Tryd.prog 36 #[u, v] w1 (CoPost N' (compF n (cdrC c) (cdrC d)) w1) := fun h2 h3 hn w1 u v N' h4 h5 h6 => by
  have a1 := shape_cdr sc h2
  have a2 := shape_cdr sd h3
  have h8 := sc.own.1
  have h9 := sd.own.1
  have a4 : htC (cdrC c) + htC (cdrC d) ≤ n := by
   by_cases e2 : c.h.pair = 2
   ·
    have := a1.2.2 e2; have := a2.2.1; omega
   ·
    have := a2.2.2 (by omega); have := a1.2.1; omega
  exact ih (cdrC c) (cdrC d) u v w1 N' (ok_cdr oc h2) (ok_cdr od h3) a4 h4 h5 h6
 have hhc := htC_eq c
 have hhd := htC_eq d
 have hfa : ∀ j, j < c.funs.length → j < d.funs.length → ∀ (w1 : World) (u v : Value) (N' : Nat → Prop), (∀ b, N' b → b < w1.heap.size) → CoVN N' w1 u (d.funs.getD j co0) → CoVN N' w1 v (c.funs.getD j co0) → Calls Tryd.prog 36 #[u, v] w1 (CoPost N' (compF n (d.funs.getD j co0) (c.funs.getD j co0)) w1) := fun j h2 h3 w1 u v N' h4 h5 h6 => by
  have a1 := htCs_mem (getC_mem h2)
  have a2 := htCs_mem (getC_mem h3)
  exact ih _ _ u v w1 N' (od.fun (getC_mem h3)) (oc.fun (getC_mem h2)) (by omega) h4 h5 h6
 have hfb : ∀ j, j < c.funs.length → j < d.funs.length → ∀ (w1 : World) (u v : Value) (N' : Nat → Prop), (∀ b, N' b → b < w1.heap.size) → CoVN N' w1 u (c.funs.getD j co0) → CoVN N' w1 v (d.funs.getD j co0) → Calls Tryd.prog 36 #[u, v] w1 (CoPost N' (compF n (c.funs.getD j co0) (d.funs.getD j co0)) w1) := fun j h2 h3 w1 u v N' h4 h5 h6 => by
  have a1 := htCs_mem (getC_mem h2)
  have a2 := htCs_mem (getC_mem h3)
  exact ih _ _ u v w1 N' (oc.fun (getC_mem h2)) (od.fun (getC_mem h3)) (by omega) h4 h5 h6
 obtain ⟨E1, hE1⟩ : ∃ x, x = compF n (carC c) (carC d) := ⟨_, rfl⟩
 obtain ⟨E2, hE2⟩ : ∃ x, x = compF n (cdrC c) (cdrC d) := ⟨_, rfl⟩
 rw [← hE1] at hca hpe
 rw [← hE2] at hcb hpe
 have hfl : 2 ≤ d.h.fn → d.h.fl = 0 := fun h => by
  have hh := od.head
  unfold headC at hh
  rw [decide_eq_true_eq] at hh
  have h4 := hh.2.2.2.2.2.2.2.2.2.2.2.2.2.2.2.2
  by_cases e : d.h.fl = 0
  ·
   exact e
  ·
   have := h4.2 e; omega
 obtain ⟨pa, pc, fa, fc, rfl, hp, hf⟩ := hc.form
 obtain ⟨np, hnp⟩ : ∃ n, n = c.pairs.length := ⟨_, rfl⟩
 obtain ⟨nf, hnf⟩ : ∃ n, n = c.funs.length := ⟨_, rfl⟩
 obtain ⟨qa, qc, ga, gc, rfl, hq, hg⟩ := hd.form
 obtain ⟨mp, hmp⟩ : ∃ n, n = d.pairs.length := ⟨_, rfl⟩
 obtain ⟨mf, hmf⟩ : ∃ n, n = d.funs.length := ⟨_, rfl⟩
 rw [← hnp, ← hnf] at hc
 rw [← hmp, ← hmf] at hd
 rw [← hnf, ← hmf] at hfa hfb
 rw [← hnp] at hp
 rw [← hnf] at hf
 rw [← hmp] at hq
 rw [← hmf] at hg
 rw [← hnp, ← hnf, ← hmp, ← hmf]
 have b3 : (nf : Int) ≤ 9223372036854775807 := by have := hf.len; rw [← hnf] at this; unfold maxLen at this; omega
 have b4 : (mf : Int) ≤ 9223372036854775807 := by have := hg.len; rw [← hmf] at this; unfold maxLen at this; omega
 have HMN := hid (show ∀ b, (fun x => (N x ∨ x = w.heap.size + 2) ∨ x = w.heap.size + 3) b → N b ∨ w.heap.size ≤ b from fun b h => by
  rcases h with (h | h) | h
  ·
   exact .inl h
  ·
   exact .inr (by omega)
  ·
   exact .inr (by omega))
 have HMB := hid (show ∀ W' : World, w.heap.size + 4 ≤ W'.heap.size → ∀ b, (fun x => (N x ∨ x = w.heap.size + 2) ∨ x = w.heap.size + 3) b → b < W'.heap.size from fun W' hW' b h => by
  rcases h with (h | h) | h
  ·
   have := hN b h; omega
  ·
   omega
  ·
   omega)
 have HCV := hid (fun (W' : World) (M' : Nat → Prop) (hl : Below w.heap.size w W') (hm : ∀ b, M' b → N b ∨ w.heap.size ≤ b) => hc.later hl hm)
 have HDV := hid (fun (W' : World) (M' : Nat → Prop) (hl : Below w.heap.size w W') (hm : ∀ b, M' b → N b ∨ w.heap.size ≤ b) => hd.later hl hm)
 have HCP := hid (fun (W' : World) (hl : Below w.heap.size w W') => CoSN.later (M := (fun x => (N x ∨ x = w.heap.size + 2) ∨ x = w.heap.size + 3)) hp hl HMN.out)
 have HCF := hid (fun (W' : World) (hl : Below w.heap.size w W') => CoSN.later (M := (fun x => (N x ∨ x = w.heap.size + 2) ∨ x = w.heap.size + 3)) hf hl HMN.out)
 have HDP := hid (fun (W' : World) (hl : Below w.heap.size w W') => CoSN.later (M := (fun x => (N x ∨ x = w.heap.size + 2) ∨ x = w.heap.size + 3)) hq hl HMN.out)
 have HDF := hid (fun (W' : World) (hl : Below w.heap.size w W') => CoSN.later (M := (fun x => (N x ∨ x = w.heap.size + 2) ∨ x = w.heap.size + 3)) hg hl HMN.out)
 obtain ⟨W, hW⟩ : ∃ W, W = (((w.alloc (.cells #[.int .i64 c.h.f0, .int .i64 c.h.f1, .int .i64 c.h.f2, .int .i64 c.h.f3, .int .i64 c.h.f4, .int .i64 c.h.f5, .int .i64 c.h.pair, .int .i64 c.h.pl, .slice pa np pc, .int .i64 c.h.fn, .int .i64 c.h.fl, .slice fa nf fc] 30)).alloc (.cells #[.int .i64 d.h.f0, .int .i64 d.h.f1, .int .i64 d.h.f2, .int .i64 d.h.f3, .int .i64 d.h.f4, .int .i64 d.h.f5, .int .i64 d.h.pair, .int .i64 d.h.pl, .slice qa mp qc, .int .i64 d.h.fn, .int .i64 d.h.fl, .slice ga mf gc] 30)).alloc (.cells #[.int .i64 0, .int .i64 0, .int .i64 0, .int .i64 0, .int .i64 0, .int .i64 0, .int .i64 0, .int .i64 0, .slice none 0 0, .int .i64 0, .int .i64 0, .slice none 0 0] 30)).alloc (.cells #[.int .i64 0, .int .i64 0, .int .i64 0, .int .i64 0, .int .i64 0, .int .i64 0, .int .i64 0, .int .i64 0, .slice none 0 0, .int .i64 0, .int .i64 0, .slice none 0 0] 30) := ⟨_, rfl⟩
 have HS := hid (show RmS w W ⟨c.h, .slice pa np pc, .slice fa nf fc⟩ ⟨d.h, .slice qa mp qc, .slice ga mf gc⟩ ⟨mixR c d 0, .slice none 0 0, .slice none 0 0⟩ by
  rw [hW]
  refine ⟨?_, ?_, ?_, ?_, ?_⟩
  ·
   exact (((CBox.made w 30 ⟨c.h, .slice pa np pc, .slice fa nf fc⟩).keep (bAl _ _)).keep (bAl _ _)).keep (bAl _ _)
  ·
   have := ((CBox.made (w.alloc (.cells #[.int .i64 c.h.f0, .int .i64 c.h.f1, .int .i64 c.h.f2, .int .i64 c.h.f3, .int .i64 c.h.f4, .int .i64 c.h.f5, .int .i64 c.h.pair, .int .i64 c.h.pl, .slice pa np pc, .int .i64 c.h.fn, .int .i64 c.h.fl, .slice fa nf fc] 30)) 30 ⟨d.h, .slice qa mp qc, .slice ga mf gc⟩).keep ((Below.refl _ _).alloc (Nat.le_refl _) (.cells #[.int .i64 0, .int .i64 0, .int .i64 0, .int .i64 0, .int .i64 0, .int .i64 0, .int .i64 0, .int .i64 0, .slice none 0 0, .int .i64 0, .int .i64 0, .slice none 0 0] 30))).keep ((Below.refl _ _).alloc (Nat.le_refl _) (.cells #[.int .i64 0, .int .i64 0, .int .i64 0, .int .i64 0, .int .i64 0, .int .i64 0, .int .i64 0, .int .i64 0, .slice none 0 0, .int .i64 0, .int .i64 0, .slice none 0 0] 30)); simp only [alloc_hs7] at this; exact this
  ·
   have := (CBox.made ((w.alloc (.cells #[.int .i64 c.h.f0, .int .i64 c.h.f1, .int .i64 c.h.f2, .int .i64 c.h.f3, .int .i64 c.h.f4, .int .i64 c.h.f5, .int .i64 c.h.pair, .int .i64 c.h.pl, .slice pa np pc, .int .i64 c.h.fn, .int .i64 c.h.fl, .slice fa nf fc] 30)).alloc (.cells #[.int .i64 d.h.f0, .int .i64 d.h.f1, .int .i64 d.h.f2, .int .i64 d.h.f3, .int .i64 d.h.f4, .int .i64 d.h.f5, .int .i64 d.h.pair, .int .i64 d.h.pl, .slice qa mp qc, .int .i64 d.h.fn, .int .i64 d.h.fl, .slice ga mf gc] 30)) 30 ⟨⟨0, 0, 0, 0, 0, 0, 0, 0, 0, 0⟩, .slice none 0 0, .slice none 0 0⟩).keep ((Below.refl _ _).alloc (Nat.le_refl _) (.cells #[.int .i64 0, .int .i64 0, .int .i64 0, .int .i64 0, .int .i64 0, .int .i64 0, .int .i64 0, .int .i64 0, .slice none 0 0, .int .i64 0, .int .i64 0, .slice none 0 0] 30)); simp only [alloc_hs7] at this; exact this
  ·
   have := CBox.made (((w.alloc (.cells #[.int .i64 c.h.f0, .int .i64 c.h.f1, .int .i64 c.h.f2, .int .i64 c.h.f3, .int .i64 c.h.f4, .int .i64 c.h.f5, .int .i64 c.h.pair, .int .i64 c.h.pl, .slice pa np pc, .int .i64 c.h.fn, .int .i64 c.h.fl, .slice fa nf fc] 30)).alloc (.cells #[.int .i64 d.h.f0, .int .i64 d.h.f1, .int .i64 d.h.f2, .int .i64 d.h.f3, .int .i64 d.h.f4, .int .i64 d.h.f5, .int .i64 d.h.pair, .int .i64 d.h.pl, .slice qa mp qc, .int .i64 d.h.fn, .int .i64 d.h.fl, .slice ga mf gc] 30)).alloc (.cells #[.int .i64 0, .int .i64 0, .int .i64 0, .int .i64 0, .int .i64 0, .int .i64 0, .int .i64 0, .int .i64 0, .slice none 0 0, .int .i64 0, .int .i64 0, .slice none 0 0] 30)) 30 ⟨⟨0, 0, 0, 0, 0, 0, 0, 0, 0, 0⟩, .slice none 0 0, .slice none 0 0⟩; simp only [alloc_hs7] at this; exact this
  ·
   exact (((bAl _ _).alloc (by simp) _).alloc (by simp only [alloc_hs7]; omega) _).alloc (by simp only [alloc_hs7]; omega) _)
 have HPE := hid hpe
 have HFE := hid hfe
 have HRQ := hid hRQ
 have HUN := hid hun
 have HVN := hid hvn
 have HFL := hid hfl
 have HCA0 := hid hca
 have HCB0 := hid hcb
 have HFA := hid hfa
 have HFB := hid hfb
 have HOKC := hid oc
 have HOKD := hid od
 have HPN := hid hnp
 have HFN := hid hnf
 have HPM := hid hmp
 have HFM := hid hmf
 have HW := hid hW
 clear hW hnp hnf hmp hmf hp hf hq hg hc hd hN hht oc od sc sd h1 h2 hpe hfe hRQ hP hF hun hvn hfl hca hcb hfa hfb hE1 hE2 ih hhc hhd
 go_enter Tryd.func36, Tryd.ntmps36
 go_wp2
 rw [← HW.out]
 clear HW
 go_loopw [6] (fun iv wr => ∃ i : Nat, i ≤ 6 ∧ iv = .int .i64 i ∧ Hid (CBox wr (w.heap.size + 3) 30 ⟨mixR c d i, .slice none 0 0, .slice none 0 0⟩) ∧ Hid (But (w.heap.size + 3) W wr)) (fun iv _ => 6 - (intOf iv).toNat)
 case atStart => exact ⟨0, Nat.zero_le _, rfl, hid HS.out.o, hid (But.refl _ _)⟩
 case round =>
  obtain ⟨i, hi1, rfl, HOB, HRL⟩ := hrel
  by_cases hlt : i < 6
  ·
   have hi0 : (0 : Int) ≤ (i : Int) := Int.natCast_nonneg _
   have hi2 : (i : Int) < 6 := by omega
   have XI : W.cell? ⟨w.heap.size, i, none⟩ = some (.int .i64 (c.h.flat.getD i 0)) := HS.out.x.flat hlt
   have YI : W.cell? ⟨(w.heap.size + 1), i, none⟩ = some (.int .i64 (d.h.flat.getD i 0)) := HS.out.y.flat hlt
   obtain ⟨p, hp⟩ : ∃ p, p = c.h.flat.getD i 0 := ⟨_, rfl⟩
   obtain ⟨q, hq⟩ : ∃ q, q = d.h.flat.getD i 0 := ⟨_, rfl⟩
   rw [← hp] at XI
   rw [← hq] at YI
   have HSL := hid (show w.heap.size < W.heap.size ∧ w.heap.size + 1 < W.heap.size from ⟨HS.out.x.lt, HS.out.y.lt⟩)
   have oc : wr.drew.cell? ⟨(w.heap.size + 3), i, none⟩ = some (.int .i64 ((mixR c d i).flat.getD i 0)) := HOB.out.flat hlt
   have of : wr.drew.frozen? ⟨(w.heap.size + 3), i, none⟩ = false := HOB.out.fr i
   have HWD := hid (show Below wr.heap.size wr wr.drew from (Below.refl _ _).drew)
   have HOD := hid (HOB.out.keep HWD.out)
   have HLT := hid hlt
   have HPQ := hid (And.intro hp hq)
   clear hlt hi1 hp hq
   go_upto_region 5 with fail
   (try dsimp only [List.append])
   refine wp_region_noPanic ?_
   refine wp_region_held_drew (S := (fun w' => But (w.heap.size + 3) W w')) (by kernel_rfl) (by (try dsimp only); exact HRL.out.then (Below.refl _ _).drew) (fun hHeld => ?_)
   generalize wr.drew = wd at hHeld HWD HOD oc of ⊢
   refine' tk_q 0 16 hHeld ?hi0 ?hr0
   case hi0 => (refine ⟨_, rfl, rfl, rfl, fun wz hSw => ?_⟩; (try dsimp only at hSw); go_simp; (try with_reducible rfl))
   (try simp only [pq1, ls0, ls1])
   refine' tk_q 1 17 hHeld ?hi1 ?hr1
   case hi1 => (refine ⟨_, rfl, rfl, rfl, fun wz hSw => ?_⟩; (try dsimp only at hSw); go_simp; (try with_reducible rfl))
   (try simp only [pq1, ls0, ls1])
   refine' tk_q 2 18 hHeld ?hi2 ?hr2
   case hi2 => (refine ⟨_, rfl, rfl, rfl, fun wz hSw => ?_⟩; (try dsimp only at hSw); go_simp; (try with_reducible rfl))
   (try simp only [pq1, ls0, ls1])
   refine' tk_q 3 19 hHeld ?hi3 ?hr3
   case hi3 => (refine ⟨_, rfl, rfl, rfl, fun wz hSw => ?_⟩; (try dsimp only at hSw); go_simp; (try with_reducible rfl))
   (try simp only [pq1, ls0, ls1])
   refine' tk_q 4 20 hHeld ?hi4 ?hr4
   case hi4 => (refine ⟨_, rfl, rfl, rfl, fun wz hSw => ?_⟩; (try dsimp only at hSw); have a0 := (hSw.cell (p := ⟨w.heap.size, i, none⟩) HSL.out.1 (by show w.heap.size ≠ w.heap.size + 3; omega)).trans XI; have b0 := (hSw.cell (p := ⟨(w.heap.size + 1), i, none⟩) HSL.out.2 (by show w.heap.size + 1 ≠ w.heap.size + 3; omega)).trans YI; go_simp; (try with_reducible rfl))
   (try simp only [pq1, ls0, ls1])
   refine' tk_q 5 21 hHeld ?hi5 ?hr5
   case hi5 => (refine ⟨_, rfl, rfl, rfl, fun wz hSw => ?_⟩; (try dsimp only at hSw); go_simp; (try with_reducible rfl))
   (try simp only [pq1, ls0, ls1])
   refine' tk_q 6 22 hHeld ?hi6 ?hr6
   case hi6 => (refine ⟨_, rfl, rfl, rfl, fun wz hSw => ?_⟩; (try dsimp only at hSw); go_simp; (try with_reducible rfl))
   (try simp only [pq1, ls0, ls1])
   refine' tk_q 7 23 hHeld ?hi7 ?hr7
   case hi7 => (refine ⟨_, rfl, rfl, rfl, fun wz hSw => ?_⟩; (try dsimp only at hSw); go_simp; (try with_reducible rfl))
   (try simp only [pq1, ls0, ls1])
   refine' tk_q 8 24 hHeld ?hi8 ?hr8
   case hi8 => (refine ⟨_, rfl, rfl, rfl, fun wz hSw => ?_⟩; (try dsimp only at hSw); have a0 := (hSw.cell (p := ⟨w.heap.size, i, none⟩) HSL.out.1 (by show w.heap.size ≠ w.heap.size + 3; omega)).trans XI; have b0 := (hSw.cell (p := ⟨(w.heap.size + 1), i, none⟩) HSL.out.2 (by show w.heap.size + 1 ≠ w.heap.size + 3; omega)).trans YI; go_simp; (try with_reducible rfl))
   (try simp only [pq1, ls0, ls1])
   refine' tk_q 10 26 hHeld ?hi9 ?hr9
   case hi9 => (refine ⟨_, rfl, rfl, rfl, fun wz hSw => ?_⟩; (try dsimp only at hSw); go_simp; (try with_reducible rfl))
   (try simp only [pq1, ls0, ls1])
   refine' tk_call 9 ?hia (by kernel_rfl) ?hra
   case hia => rfl
   intro K hK
   go_simp
   go_at_call 64
   refine (reither_go p q wd).mono ?_
   rintro e w2 ⟨rfl, rfl⟩
   go_wp2_with fail
   clear hHeld
   refine hK.out _ _ (by (try dsimp only); exact HRL.out.then HWD.out) (fun hHeld => ?_)
   clear hK K
   (try simp only [pq1, ls0, ls1])
   refine' tk_q 11 27 hHeld ?hib ?hrb
   case hib => (refine ⟨_, rfl, rfl, rfl, fun wz hSw => ?_⟩; (try dsimp only at hSw); go_simp; (try with_reducible rfl))
   (try simp only [pq1, ls0, ls1])
   refine' tk_call 12 ?hic (by kernel_rfl) ?hrc
   case hic => rfl
   intro K hK
   go_simp
   clear hHeld
   refine hK.out _ _ (by (try dsimp only); exact (HRL.out.then HWD.out).set _ _) (fun hHeld => ?_)
   clear hK K
   (try simp only [pq1, ls0, ls1])
   refine wpAnyH_done (by kernel_rfl) ?_ _
   refine NoPanic.normal ?_
   go_wp2
   refine ⟨⟨i + 1, HLT.out, by go_num, hid (mixR_store HLT.out HPQ.out.1 HPQ.out.2 HOD.out), hid ((HRL.out.then HWD.out).set _ _)⟩, by have := HLT.out; simp [intOf]; omega⟩
  ·
   have h6 : i = 6 := by omega
   rw [h6] at HOB
   clear h6
   obtain ⟨W1, rfl⟩ : ∃ x, x = wr := ⟨_, rfl⟩
   replace HS := hid (show RmS w W1 ⟨c.h, .slice pa np pc, .slice fa nf fc⟩ ⟨d.h, .slice qa mp qc, .slice ga mf gc⟩ ⟨mixE c d (0) (0) (0) (0), .slice none 0 0, .slice none 0 0⟩ from HS.out.but HRL.out HOB.out)
   clear HOB HRL
   obtain ⟨x0, x1, x2, x3, x4, x5, x6, x7, x8, x9, x10, x11⟩ := HS.out.x.cs
   (try dsimp only at x0 x1 x2 x3 x4 x5 x6 x7 x8 x9 x10 x11)
   obtain ⟨y0, y1, y2, y3, y4, y5, y6, y7, y8, y9, y10, y11⟩ := HS.out.y.cs
   (try dsimp only at y0 y1 y2 y3 y4 y5 y6 y7 y8 y9 y10 y11)
   go_upto_region 7 with fail
   obtain ⟨gx, hg⟩ : ∃ x, x = W1.heap.size := ⟨_, rfl⟩
   obtain ⟨W2, hw⟩ : ∃ x : World, x = W1.alloc (.cells #[.int .i64 c.h.f0, .int .i64 c.h.f1, .int .i64 c.h.f2, .int .i64 c.h.f3, .int .i64 c.h.f4, .int .i64 c.h.f5, .int .i64 c.h.pair, .int .i64 c.h.pl, .slice pa np pc, .int .i64 c.h.fn, .int .i64 c.h.fl, .slice fa nf fc] 30) := ⟨_, rfl⟩
   rw [← hw, ← hg]
   have hb : Below W1.heap.size W1 W2 := by rw [hw]; exact bAl _ _
   have HG := hid (show CBox W2 gx 30 ⟨c.h, .slice pa np pc, .slice fa nf fc⟩ by rw [hw, hg]; exact CBox.made W1 30 ⟨c.h, .slice pa np pc, .slice fa nf fc⟩)
   have HGL := hid (show w.heap.size + 4 ≤ gx by rw [hg]; exact HS.out.o.lt)
   replace HS := hid (HS.out.keep hb)
   clear hb hw hg
   clear x0 y0 x1 y1 x2 y2 x3 y3 x4 y4 x5 y5 x6 y6 x7 y7 x8 y8 x9 y9 x10 y10 x11 y11
   obtain ⟨X, hX⟩ : ∃ x : Co, x = if c.h.pair ≠ 1 ∧ d.h.pair ≠ 0 then d else c := ⟨_, rfl⟩
   obtain ⟨xn, hxn⟩ : ∃ x, x = X.pairs.length := ⟨_, rfl⟩
   have HXX := hid hX
   have HXN := hid hxn
   clear hX hxn
   go_upto_region 7 with fail
   go_cut [36] from 29 to 36 (fun cc wx => ∃ zz : Bool, cc = .bool zz ∧ Hid (zz = decide (c.h.pair ≠ 1 ∧ d.h.pair ≠ 0)) ∧ W2 = wx)
   case first =>
    have x6 : W2.cell? ⟨w.heap.size, 6, none⟩ = some (.int .i64 c.h.pair) := HS.out.x.c6
    have y6 : W2.cell? ⟨(w.heap.size + 1), 6, none⟩ = some (.int .i64 d.h.pair) := HS.out.y.c6
    by_cases k0 : c.h.pair ≠ 1
    case neg =>
     have b0 : (c.h.pair != 1) = false := by simpa using k0
     have K0 := hid k0
     clear k0
     go_wp2
     go_meet
     case rel => exact ⟨false, rfl, hid (decide_eq_false (p := c.h.pair ≠ 1 ∧ d.h.pair ≠ 0) (fun h => by have h1 := K0.out; omega)).symm, rfl⟩
    have b0 : (c.h.pair != 1) = true := by simpa using k0
    have K0 := hid k0
    clear k0
    by_cases k1 : d.h.pair ≠ 0
    case neg =>
     have b1 : (d.h.pair != 0) = false := by simpa using k1
     have K1 := hid k1
     clear k1
     go_wp2
     go_meet
     case rel => exact ⟨false, rfl, hid (decide_eq_false (p := c.h.pair ≠ 1 ∧ d.h.pair ≠ 0) (fun h => by have h1 := K1.out; omega)).symm, rfl⟩
    have b1 : (d.h.pair != 0) = true := by simpa using k1
    have K1 := hid k1
    clear k1
    go_wp2
    go_meet
    case rel => exact ⟨true, rfl, hid (decide_eq_true (p := c.h.pair ≠ 1 ∧ d.h.pair ≠ 0) (by have h0 := K0.out; have h1 := K1.out; omega)).symm, rfl⟩
   case rest =>
    obtain ⟨zt, rfl, Hzt, rfl⟩ := hcut
    go_upto_if 36 with fail
    go_cut [] from 36 to 37 (fun wx => ∃ (xa : Option Addr) (xc : Nat) (yv : Value), Hid (CBox wx gx 30 ⟨X.h, .slice xa xn xc, yv⟩) ∧ Hid (CoS wx (Lc (fun x => (N x ∨ x = w.heap.size + 2) ∨ x = w.heap.size + 3) wx) (.slice xa xn xc) X.pairs) ∧ Hid (RmS w wx ⟨c.h, .slice pa np pc, .slice fa nf fc⟩ ⟨d.h, .slice qa mp qc, .slice ga mf gc⟩ ⟨mixE c d (0) (0) (0) (0), .slice none 0 0, .slice none 0 0⟩))
    case first =>
     cases zt with
     | false =>
      have KT := hid (show ¬ (c.h.pair ≠ 1 ∧ d.h.pair ≠ 0) from of_decide_eq_false Hzt.out.symm)
      clear Hzt
      go_wp2
      go_meet
      case rel =>
       have hX : X = c := by rw [HXX.out, if_neg KT.out]
       have hn : xn = np := by rw [HXN.out, hX]; exact (HPN).out.symm
       rw [hX, hn]
       exact ⟨pa, pc, .slice fa nf fc, HG, hid (HCP.out _ HS.out.low), HS⟩
     | true =>
      have KT := hid (show c.h.pair ≠ 1 ∧ d.h.pair ≠ 0 from of_decide_eq_true Hzt.out.symm)
      clear Hzt
      obtain ⟨y0, y1, y2, y3, y4, y5, y6, y7, y8, y9, y10, y11⟩ := HS.out.y.cs
      (try dsimp only at y0 y1 y2 y3 y4 y5 y6 y7 y8 y9 y10 y11)
      obtain ⟨z0, z1, z2, z3, z4, z5, z6, z7, z8, z9, z10, z11⟩ := HG.out.cs
      (try dsimp only at z0 z1 z2 z3 z4 z5 z6 z7 z8 z9 z10 z11)
      obtain ⟨fr0, fr1, fr2, fr3, fr4, fr5, fr6, fr7, fr8, fr9, fr10, fr11⟩ := HG.out.frs
      go_wp2
      go_meet
      case rel =>
       have hX : X = d := by rw [HXX.out, if_pos KT.out]
       have hn : xn = mp := by rw [HXN.out, hX]; exact (HPM).out.symm
       rw [hX, hn]
       have hk : But gx W2 (set12 W2 gx ⟨d.h, .slice qa mp qc, .slice ga mf gc⟩) := But.set12 _ _ _
       have h1 : RmS w (set12 W2 gx ⟨d.h, .slice qa mp qc, .slice ga mf gc⟩) ⟨c.h, .slice pa np pc, .slice fa nf fc⟩ ⟨d.h, .slice qa mp qc, .slice ga mf gc⟩ ⟨mixE c d (0) (0) (0) (0), .slice none 0 0, .slice none 0 0⟩ := HS.out.far HGL.out hk
       exact ⟨qa, qc, .slice ga mf gc, hid (show CBox (set12 W2 gx ⟨d.h, .slice qa mp qc, .slice ga mf gc⟩) gx 30 ⟨d.h, .slice qa mp qc, .slice ga mf gc⟩ from CBox.set12 HG.out), hid (HDP.out _ h1.low), hid h1⟩
    case rest =>
     obtain ⟨xa, xc, yv, HG2, HROWX, HS2⟩ := hcut
     clear HG HS
     obtain ⟨wa, rfl⟩ : ∃ x, x = wc := ⟨_, rfl⟩
     have HG := HG2
     have HS := HS2
     clear HG2 HS2
     have z6 : wa.cell? ⟨gx, 6, none⟩ = some (.int .i64 X.h.pair) := HG.out.c6
     have z7 : wa.cell? ⟨gx, 7, none⟩ = some (.int .i64 X.h.pl) := HG.out.c7
     have z8 : wa.cell? ⟨gx, 8, none⟩ = some (.slice xa xn xc) := HG.out.c8
     have hne : gx ≠ (w.heap.size + 3) := by have := HGL.out; omega
     have o6 : wa.cell? ⟨(w.heap.size + 3), 6, none⟩ = some (.int .i64 0) := HS.out.o.c6
     have fo6 : wa.frozen? ⟨(w.heap.size + 3), 6, none⟩ = false := HS.out.o.fr 6
     have o7 : wa.cell? ⟨(w.heap.size + 3), 7, none⟩ = some (.int .i64 0) := HS.out.o.c7
     have fo7 : wa.frozen? ⟨(w.heap.size + 3), 7, none⟩ = false := HS.out.o.fr 7
     have o8 : wa.cell? ⟨(w.heap.size + 3), 8, none⟩ = some (.slice none 0 0) := HS.out.o.c8
     have fo8 : wa.frozen? ⟨(w.heap.size + 3), 8, none⟩ = false := HS.out.o.fr 8
     go_upto_region 12 with fail
     obtain ⟨W3, hw⟩ : ∃ x, x = ((((((wa).setCell ⟨(w.heap.size + 3), 6, none⟩ (.int .i64 X.h.pair))).setCell ⟨(w.heap.size + 3), 7, none⟩ (.int .i64 X.h.pl))).setCell ⟨(w.heap.size + 3), 8, none⟩ (.slice xa xn xc)) := ⟨_, rfl⟩
     rw [← hw]
     have hk : But (w.heap.size + 3) wa W3 := by rw [hw]; exact ((((But.refl (w.heap.size + 3) wa).set 6 (.int .i64 X.h.pair)).set 7 (.int .i64 X.h.pl)).set 8 (.slice xa xn xc))
     replace HS := hid (show RmS w W3 ⟨c.h, .slice pa np pc, .slice fa nf fc⟩ ⟨d.h, .slice qa mp qc, .slice ga mf gc⟩ ⟨mixE c d (X.h.pair) (X.h.pl) (0) (0), .slice xa xn xc, .slice none 0 0⟩ from HS.out.but hk (by rw [hw]; exact (((HS.out.o.s6).s7).s8)))
     replace HROWX := hid (CoSN.but HROWX.out hk (.inr rfl))
     clear hk hw
     clear hne z6 o6 fo6 z7 o7 fo7 z8 o8 fo8
     go_upto_region 12 with fail
     go_cut [54] from 47 to 54 (fun cc wx => ∃ zz : Bool, cc = .bool zz ∧ Hid (zz = decide (2 ≤ c.h.pair ∧ 2 ≤ d.h.pair)) ∧ W3 = wx)
     case first =>
      have x6 : W3.cell? ⟨w.heap.size, 6, none⟩ = some (.int .i64 c.h.pair) := HS.out.x.c6
      have y6 : W3.cell? ⟨(w.heap.size + 1), 6, none⟩ = some (.int .i64 d.h.pair) := HS.out.y.c6
      by_cases k0 : 2 ≤ c.h.pair
      case neg =>
       have b0 : (decide (2 ≤ c.h.pair)) = false := by simpa using k0
       have K0 := hid k0
       clear k0
       go_wp2
       go_meet
       case rel => exact ⟨false, rfl, hid (decide_eq_false (p := 2 ≤ c.h.pair ∧ 2 ≤ d.h.pair) (fun h => by have h1 := K0.out; omega)).symm, rfl⟩
      have b0 : (decide (2 ≤ c.h.pair)) = true := by simpa using k0
      have K0 := hid k0
      clear k0
      by_cases k1 : 2 ≤ d.h.pair
      case neg =>
       have b1 : (decide (2 ≤ d.h.pair)) = false := by simpa using k1
       have K1 := hid k1
       clear k1
       go_wp2
       go_meet
       case rel => exact ⟨false, rfl, hid (decide_eq_false (p := 2 ≤ c.h.pair ∧ 2 ≤ d.h.pair) (fun h => by have h1 := K1.out; omega)).symm, rfl⟩
      have b1 : (decide (2 ≤ d.h.pair)) = true := by simpa using k1
      have K1 := hid k1
      clear k1
      go_wp2
      go_meet
      case rel => exact ⟨true, rfl, hid (decide_eq_true (p := 2 ≤ c.h.pair ∧ 2 ≤ d.h.pair) (by have h0 := K0.out; have h1 := K1.out; omega)).symm, rfl⟩
     case rest =>
      obtain ⟨zt, rfl, Hzt, rfl⟩ := hcut
      go_upto_if 54 with fail
      go_cut [] from 54 to 88 (fun wx => ∃ (ua : Option Addr) (ub : Nat), Hid (RmS w wx ⟨c.h, .slice pa np pc, .slice fa nf fc⟩ ⟨d.h, .slice qa mp qc, .slice ga mf gc⟩ ⟨mixE c d (P.1) (P.2.1) (0) (0), .slice ua un ub, .slice none 0 0⟩) ∧ Hid (CoS wx (Lc (fun x => (N x ∨ x = w.heap.size + 2) ∨ x = w.heap.size + 3) wx) (.slice ua un ub) P.2.2))
      case first =>
       cases zt with
       | false =>
        have KT := hid (show ¬ (2 ≤ c.h.pair ∧ 2 ≤ d.h.pair) from of_decide_eq_false Hzt.out.symm)
        clear Hzt
        go_wp2
        go_meet
        case rel =>
         have hP : P = (X.h.pair, X.h.pl, X.pairs) := by
          rw [HPE.out, if_neg KT.out, HXX.out]
          by_cases h : c.h.pair ≠ 1 ∧ d.h.pair ≠ 0
          ·
           rw [if_pos h, if_pos h]
          ·
           rw [if_neg h, if_neg h]
         have hn : un = xn := by rw [HUN.out, hP, HXN.out]
         rw [hP, hn]
         exact ⟨xa, xc, HS, HROWX⟩
       | true =>
        have KT := hid (show 2 ≤ c.h.pair ∧ 2 ≤ d.h.pair from of_decide_eq_true Hzt.out.symm)
        clear Hzt
        have o6 : W3.cell? ⟨(w.heap.size + 3), 6, none⟩ = some (.int .i64 X.h.pair) := HS.out.o.c6
        have fo6 : W3.frozen? ⟨(w.heap.size + 3), 6, none⟩ = false := HS.out.o.fr 6
        have o7 : W3.cell? ⟨(w.heap.size + 3), 7, none⟩ = some (.int .i64 X.h.pl) := HS.out.o.c7
        have fo7 : W3.frozen? ⟨(w.heap.size + 3), 7, none⟩ = false := HS.out.o.fr 7
        clear HROWX
        go_upto_region 15 with fail
        obtain ⟨V1, hw⟩ : ∃ x, x = ((((W3).setCell ⟨(w.heap.size + 3), 7, none⟩ (.int .i64 0))).setCell ⟨(w.heap.size + 3), 6, none⟩ (.int .i64 2)) := ⟨_, rfl⟩
        rw [← hw]
        have hk : But (w.heap.size + 3) W3 V1 := by rw [hw]; exact (((But.refl (w.heap.size + 3) W3).set 7 (.int .i64 0)).set 6 (.int .i64 2))
        replace HS := hid (show RmS w V1 ⟨c.h, .slice pa np pc, .slice fa nf fc⟩ ⟨d.h, .slice qa mp qc, .slice ga mf gc⟩ ⟨mixE c d (2) (0) (0) (0), .slice xa xn xc, .slice none 0 0⟩ from HS.out.but hk (by rw [hw]; exact ((HS.out.o.s7).s6)))
        clear hk hw
        clear o6 fo6 o7 fo7
        have HSB := HS
        have HOC := hid (show okC c ∧ 2 ≤ c.h.pair from ⟨HOKC.out, KT.out.1⟩)
        have HOD := hid (show okC d ∧ 2 ≤ d.h.pair from ⟨HOKD.out, KT.out.2⟩)
        have HCA := hid (HCA0.out KT.out.1 KT.out.2)
        have HG3 := hid (show (w.heap.size + 3) < V1.heap.size from HS.out.o.lt)
        go_upto_region 15 with fail
        (try dsimp only [List.append])
        refine wp_region_noPanic ?_
        refine wp_region_held_drew (S := (fun w' => But (w.heap.size + 3) V1 w')) (by kernel_rfl) (by (try dsimp only); exact (But.refl _ _).then ((Below.refl _ _).drew)) (fun hHeld => ?_)
        have HBT := hid (show Below V1.heap.size V1 V1.drew from (Below.refl _ _).drew)
        generalize V1.drew = wd at hHeld HBT ⊢
        refine' tk_q 0 57 hHeld ?hid ?hrd
        case hid => (refine ⟨_, rfl, rfl, rfl, fun wz hSw => ?_⟩; (try dsimp only at hSw); obtain ⟨a0, a1, a2, a3, a4, a5, a6, a7, a8, a9, a10, a11⟩ := (HS.out.x.but hSw (by omega)).cs; (try dsimp only at a0 a1 a2 a3 a4 a5 a6 a7 a8 a9 a10 a11); go_simp; (try with_reducible rfl))
        (try simp only [pq1, ls0, ls1])
        refine' tk_q 2 59 hHeld ?hie ?hre
        case hie => (refine ⟨_, rfl, rfl, rfl, fun wz hSw => ?_⟩; (try dsimp only at hSw); obtain ⟨b0, b1, b2, b3, b4, b5, b6, b7, b8, b9, b10, b11⟩ := (HS.out.y.but hSw (by omega)).cs; (try dsimp only at b0 b1 b2 b3 b4 b5 b6 b7 b8 b9 b10 b11); go_simp; (try with_reducible rfl))
        (try simp only [pq1, ls0, ls1])
        refine' tk_call 1 ?hif (by kernel_rfl) ?hrf
        case hif => rfl
        intro K hK
        go_simp
        go_at_call 22
        refine (rcar_go (fun x => (N x ∨ x = w.heap.size + 2) ∨ x = w.heap.size + 3) c _ wd (HMB.out wd (Nat.le_trans HS.out.o.lt HBT.out.size)) (plen_of HOC.out).1 (plen_of HOC.out).2 (HCV.out _ _ (HS.out.low.trans (HBT.out.mono HS.out.low.size)) HMN.out)).mono ?_
        rintro e w1 ⟨⟨u, rfl, hu⟩, hb⟩
        obtain ⟨q11, q12, q13, q14, rfl, _, _⟩ := hu.form
        have HU1 := hid hu
        replace HBT := hid (HBT.out.trans (hb.mono HBT.out.size))
        clear hu hb
        go_wp2_with fail
        clear hHeld
        refine hK.out _ _ (by (try dsimp only); exact (But.refl _ _).then HBT.out) (fun hHeld => ?_)
        clear hK K
        (try simp only [pq1, ls0, ls1])
        refine' tk_call 3 ?hig (by kernel_rfl) ?hrg
        case hig => rfl
        intro K hK
        go_simp
        go_at_call 22
        refine (rcar_go (fun x => (N x ∨ x = w.heap.size + 2) ∨ x = w.heap.size + 3) d _ w1 (HMB.out w1 (Nat.le_trans HS.out.o.lt HBT.out.size)) (plen_of HOD.out).1 (plen_of HOD.out).2 (HDV.out _ _ (HS.out.low.trans (HBT.out.mono HS.out.low.size)) HMN.out)).mono ?_
        rintro e w2 ⟨⟨u, rfl, hu⟩, hb⟩
        obtain ⟨q21, q22, q23, q24, rfl, _, _⟩ := hu.form
        have HU2 := hid hu
        replace HBT := hid (HBT.out.trans (hb.mono HBT.out.size))
        replace HU1 := hid (HU1.out.below hb)
        clear hu hb
        go_wp2_with fail
        clear hHeld
        refine hK.out _ _ (by (try dsimp only); exact (But.refl _ _).then HBT.out) (fun hHeld => ?_)
        clear hK K
        (try simp only [pq1, ls0, ls1])
        refine' tk_call 4 ?hih (by kernel_rfl) ?hrh
        case hih => rfl
        intro K hK
        go_simp
        go_at_call 36
        refine (HCA.out w2 _ _ (fun x => (N x ∨ x = w.heap.size + 2) ∨ x = w.heap.size + 3) (HMB.out w2 (Nat.le_trans HS.out.o.lt HBT.out.size)) HU1.out HU2.out).mono ?_
        rintro e w3 ⟨⟨u, rfl, hu⟩, hb⟩
        obtain ⟨q31, q32, q33, q34, rfl, _, _⟩ := hu.form
        have HU3 := hid hu
        replace HBT := hid (HBT.out.trans (hb.mono HBT.out.size))
        clear hu hb
        go_wp2_with fail
        clear hHeld
        refine hK.out _ _ (by (try dsimp only); exact (But.refl _ _).then HBT.out) (fun hHeld => ?_)
        clear hK K
        (try simp only [pq1, ls0, ls1])
        refine' tk_call 5 ?hii (by kernel_rfl) ?hri
        case hii => rfl
        intro K hK
        go_simp
        obtain ⟨wA, hwA⟩ : ∃ x : World, x = w3.alloc (.cells #[.int .i64 E1.h.f0, .int .i64 E1.h.f1, .int .i64 E1.h.f2, .int .i64 E1.h.f3, .int .i64 E1.h.f4, .int .i64 E1.h.f5, .int .i64 E1.h.pair, .int .i64 E1.h.pl, .slice q31 E1.pairs.length q32, .int .i64 E1.h.fn, .int .i64 E1.h.fl, .slice q33 E1.funs.length q34] 30) := ⟨_, rfl⟩
        rw [← hwA]
        have hb : Below w3.heap.size w3 wA := by rw [hwA]; exact bAl _ _
        have HROW1 := hid (show RowC 30 (fun x => (N x ∨ x = w.heap.size + 2) ∨ x = w.heap.size + 3) V1.heap.size wA (.slice (some ⟨w3.heap.size, 0, none⟩) 1 1) [E1] by rw [hwA]; exact RowC.one (r := ⟨E1.h, .slice q31 E1.pairs.length q32, .slice q33 E1.funs.length q34⟩) HBT.out.size HU3.out.raw)
        replace HBT := hid (HBT.out.trans (hb.mono HBT.out.size))
        obtain ⟨b1, hb1⟩ : ∃ x, x = w3.heap.size := ⟨_, rfl⟩
        rw [← hb1] at HROW1 ⊢
        clear hb hb1 hwA
        have HSA := hid (HS.out.keep HBT.out)
        have oc : wA.cell? ⟨(w.heap.size + 3), 8, none⟩ = some (.slice xa xn xc) := HSA.out.o.c8
        have of : wA.frozen? ⟨(w.heap.size + 3), 8, none⟩ = false := HSA.out.o.fr 8
        clear hHeld
        refine hK.out _ _ (by (try dsimp only); exact (But.refl _ _).then HBT.out) (fun hHeld => ?_)
        clear hK K
        (try simp only [pq1, ls0, ls1])
        refine' tk_q 6 63 hHeld ?hij ?hrj
        case hij => (refine ⟨_, rfl, rfl, rfl, fun wz hSw => ?_⟩; (try dsimp only at hSw); go_simp; (try with_reducible rfl))
        (try simp only [pq1, ls0, ls1])
        refine' tk_call 7 ?hik (by kernel_rfl) ?hrk
        case hik => rfl
        intro K hK
        go_simp
        clear hHeld
        refine hK.out _ _ (by (try dsimp only); exact ((But.refl _ _).then HBT.out).set _ _) (fun hHeld => ?_)
        clear hK K
        (try simp only [pq1, ls0, ls1])
        refine wpAnyH_done (by kernel_rfl) ?_ _
        refine NoPanic.normal ?_
        clear HU1 HU2 HU3 HS
        have HS := HSA
        clear HSA
        obtain ⟨V2, hw⟩ : ∃ x, x = ((wA).setCell ⟨(w.heap.size + 3), 8, none⟩ (.slice (some ⟨b1, 0, none⟩) 1 1)) := ⟨_, rfl⟩
        rw [← hw]
        have hk : But (w.heap.size + 3) wA V2 := by rw [hw]; exact ((But.refl (w.heap.size + 3) wA).set 8 (.slice (some ⟨b1, 0, none⟩) 1 1))
        replace HS := hid (show RmS w V2 ⟨c.h, .slice pa np pc, .slice fa nf fc⟩ ⟨d.h, .slice qa mp qc, .slice ga mf gc⟩ ⟨mixE c d (2) (0) (0) (0), .slice (some ⟨b1, 0, none⟩) 1 1, .slice none 0 0⟩ from HS.out.but hk (by rw [hw]; exact (HS.out.o.s8)))
        have hwv := hw
        have HROW := hid (show RowC 30 (fun x => (N x ∨ x = w.heap.size + 2) ∨ x = w.heap.size + 3) V1.heap.size V2 (.slice (some ⟨b1, 0, none⟩) 1 1) [E1] by rw [hwv]; exact HROW1.out.store (.inr rfl) HG3.out)
        have HKB := hid (show But (w.heap.size + 3) V1 V2 by rw [hwv]; exact ((But.refl _ _).then HBT.out).set _ _)
        clear hk hw hwv oc of HROW1 HBT
        go_upto_region 16 with fail
        go_cut [71] from 64 to 71 (fun cc wx => ∃ zz : Bool, cc = .bool zz ∧ Hid (zz = decide (c.h.pair = 3 ∧ d.h.pair = 3)) ∧ V2 = wx)
        case first =>
         have x6 : V2.cell? ⟨w.heap.size, 6, none⟩ = some (.int .i64 c.h.pair) := HS.out.x.c6
         have y6 : V2.cell? ⟨(w.heap.size + 1), 6, none⟩ = some (.int .i64 d.h.pair) := HS.out.y.c6
         by_cases k0 : c.h.pair = 3
         case neg =>
          have b0 : (c.h.pair == 3) = false := by simpa using k0
          have K0 := hid k0
          clear k0
          go_wp2
          go_meet
          case rel => exact ⟨false, rfl, hid (decide_eq_false (p := c.h.pair = 3 ∧ d.h.pair = 3) (fun h => by have h1 := K0.out; omega)).symm, rfl⟩
         have b0 : (c.h.pair == 3) = true := by simpa using k0
         have K0 := hid k0
         clear k0
         by_cases k1 : d.h.pair = 3
         case neg =>
          have b1 : (d.h.pair == 3) = false := by simpa using k1
          have K1 := hid k1
          clear k1
          go_wp2
          go_meet
          case rel => exact ⟨false, rfl, hid (decide_eq_false (p := c.h.pair = 3 ∧ d.h.pair = 3) (fun h => by have h1 := K1.out; omega)).symm, rfl⟩
         have b1 : (d.h.pair == 3) = true := by simpa using k1
         have K1 := hid k1
         clear k1
         go_wp2
         go_meet
         case rel => exact ⟨true, rfl, hid (decide_eq_true (p := c.h.pair = 3 ∧ d.h.pair = 3) (by have h0 := K0.out; have h1 := K1.out; omega)).symm, rfl⟩
        case rest =>
         obtain ⟨zs, rfl, Hzs, rfl⟩ := hcut
         have KB2 := KT
         cases zs with
         | false =>
          have KS := hid (show ¬ (c.h.pair = 3 ∧ d.h.pair = 3) from of_decide_eq_false Hzs.out.symm)
          clear Hzs
          have HCBX := hid (HCB0.out KB2.out.1 KB2.out.2 KS.out)
          have HCB := HCBX
          have HOW := hid HROW.out.lt
          have HLE := hid (show ([E1] : List Co).length = 1 from rfl)
          have HG3V := hid (show (w.heap.size + 3) < V2.heap.size from HS.out.o.lt)
          go_upto_region 19 with fail
          (try dsimp only [List.append])
          refine wp_region_noPanic ?_
          refine wp_region_held_drew (S := (fun w' => But (w.heap.size + 3) V1 w')) (by kernel_rfl) (by (try dsimp only); exact HKB.out.then ((Below.refl _ _).drew)) (fun hHeld => ?_)
          have HBT := hid (show Below V2.heap.size V2 V2.drew from (Below.refl _ _).drew)
          have oc : V2.drew.cell? ⟨(w.heap.size + 3), 8, none⟩ = some (.slice (some ⟨b1, 0, none⟩) 1 1) := HS.out.o.c8
          replace HROW := hid (HROW.out.below HBT.out)
          generalize V2.drew = wd at hHeld HBT oc HROW ⊢
          refine' tk_q 0 79 hHeld ?hil ?hrl
          case hil => (refine ⟨_, rfl, rfl, rfl, fun wz hSw => ?_⟩; (try dsimp only at hSw); go_simp; (try with_reducible rfl))
          (try simp only [pq1, ls0, ls1])
          refine' tk_q 2 81 hHeld ?him ?hrm
          case him => (refine ⟨_, rfl, rfl, rfl, fun wz hSw => ?_⟩; (try dsimp only at hSw); obtain ⟨a0, a1, a2, a3, a4, a5, a6, a7, a8, a9, a10, a11⟩ := (HSB.out.x.but hSw (by omega)).cs; (try dsimp only at a0 a1 a2 a3 a4 a5 a6 a7 a8 a9 a10 a11); go_simp; (try with_reducible rfl))
          (try simp only [pq1, ls0, ls1])
          refine' tk_q 4 83 hHeld ?hin ?hrn
          case hin => (refine ⟨_, rfl, rfl, rfl, fun wz hSw => ?_⟩; (try dsimp only at hSw); obtain ⟨b0, b1, b2, b3, b4, b5, b6, b7, b8, b9, b10, b11⟩ := (HSB.out.y.but hSw (by omega)).cs; (try dsimp only at b0 b1 b2 b3 b4 b5 b6 b7 b8 b9 b10 b11); go_simp; (try with_reducible rfl))
          (try simp only [pq1, ls0, ls1])
          refine' tk_two 1 3 ?hio ?hjo (by kernel_rfl) ?hao ?hbo
          case hio => rfl
          case hjo => rfl
          case hao =>
           intro K hK
           go_simp
           clear hHeld
           refine hK.out _ _ (by (try dsimp only); exact HKB.out.then HBT.out) (fun hHeld => ?_)
           clear hK K
           (try simp only [pq1, ls0, ls1])
           refine' tk_call 3 ?hip (by kernel_rfl) ?hrp
           case hip => rfl
           intro K hK
           go_simp
           go_at_call 24
           refine (rcdr_go (fun x => (fun x => (N x ∨ x = w.heap.size + 2) ∨ x = w.heap.size + 3) x ∨ (Value.slice (some ⟨b1, 0, none⟩) 1 1).ownBlock = some x) c _ wd (fun x hx => hx.elim ((HMB.out wd (Nat.le_trans HSB.out.o.lt (HKB.out.then HBT.out).size)) x) fun h => Nat.lt_of_lt_of_le (HOW.out x h).2 HBT.out.size) (plen_of HOC.out).1 (plen_of HOC.out).2 (HCV.out _ _ (HSB.out.low.trans ((HKB.out.then HBT.out).below (B := w.heap.size) (by omega) HSB.out.low.size)) (fun b h => h.elim (HMN.out b) fun h => .inr (Nat.le_trans HSB.out.low.size (HOW.out b h).1)))).mono ?_
           rintro e w1 ⟨⟨u, rfl, hu⟩, hb⟩
           obtain ⟨q11, q12, q13, q14, rfl, _, _⟩ := hu.form
           have HU1 := hid hu
           replace oc := (hb.cell (p := ⟨_, 8, none⟩) (Nat.lt_of_lt_of_le HG3V.out HBT.out.size)).trans oc
           replace HROW := hid (HROW.out.below hb)
           replace HBT := hid (HBT.out.trans (hb.mono HBT.out.size))
           clear hu hb
           go_wp2_with fail
           clear hHeld
           refine hK.out _ _ (by (try dsimp only); exact HKB.out.then HBT.out) (fun hHeld => ?_)
           clear hK K
           (try simp only [pq1, ls0, ls1])
           refine' tk_call 5 ?hiq (by kernel_rfl) ?hrq
           case hiq => rfl
           intro K hK
           go_simp
           go_at_call 24
           refine (rcdr_go (fun x => (fun x => (N x ∨ x = w.heap.size + 2) ∨ x = w.heap.size + 3) x ∨ (Value.slice (some ⟨b1, 0, none⟩) 1 1).ownBlock = some x) d _ w1 (fun x hx => hx.elim ((HMB.out w1 (Nat.le_trans HSB.out.o.lt (HKB.out.then HBT.out).size)) x) fun h => Nat.lt_of_lt_of_le (HOW.out x h).2 HBT.out.size) (plen_of HOD.out).1 (plen_of HOD.out).2 (HDV.out _ _ (HSB.out.low.trans ((HKB.out.then HBT.out).below (B := w.heap.size) (by omega) HSB.out.low.size)) (fun b h => h.elim (HMN.out b) fun h => .inr (Nat.le_trans HSB.out.low.size (HOW.out b h).1)))).mono ?_
           rintro e w2 ⟨⟨u, rfl, hu⟩, hb⟩
           obtain ⟨q21, q22, q23, q24, rfl, _, _⟩ := hu.form
           have HU2 := hid hu
           replace oc := (hb.cell (p := ⟨_, 8, none⟩) (Nat.lt_of_lt_of_le HG3V.out HBT.out.size)).trans oc
           replace HROW := hid (HROW.out.below hb)
           replace HBT := hid (HBT.out.trans (hb.mono HBT.out.size))
           replace HU1 := hid (HU1.out.below hb)
           clear hu hb
           go_wp2_with fail
           clear hHeld
           refine hK.out _ _ (by (try dsimp only); exact HKB.out.then HBT.out) (fun hHeld => ?_)
           clear hK K
           (try simp only [pq1, ls0, ls1])
           refine' tk_call 6 ?hir (by kernel_rfl) ?hrr
           case hir => rfl
           intro K hK
           go_simp
           go_at_call 36
           refine (HCB.out w2 _ _ (fun x => (fun x => (N x ∨ x = w.heap.size + 2) ∨ x = w.heap.size + 3) x ∨ (Value.slice (some ⟨b1, 0, none⟩) 1 1).ownBlock = some x) (fun x hx => hx.elim ((HMB.out w2 (Nat.le_trans HSB.out.o.lt (HKB.out.then HBT.out).size)) x) fun h => Nat.lt_of_lt_of_le (HOW.out x h).2 HBT.out.size) HU1.out HU2.out).mono ?_
           rintro e w3 ⟨⟨u, rfl, hu⟩, hb⟩
           obtain ⟨q31, q32, q33, q34, rfl, _, _⟩ := hu.form
           have HU3 := hid hu
           replace oc := (hb.cell (p := ⟨_, 8, none⟩) (Nat.lt_of_lt_of_le HG3V.out HBT.out.size)).trans oc
           replace HROW := hid (HROW.out.below hb)
           replace HBT := hid (HBT.out.trans (hb.mono HBT.out.size))
           clear hu hb
           go_wp2_with fail
           clear hHeld
           refine hK.out _ _ (by (try dsimp only); exact HKB.out.then HBT.out) (fun hHeld => ?_)
           clear hK K
           (try simp only [pq1, ls0, ls1])
           refine' tk_call 7 ?his (by kernel_rfl) ?hrs
           case his => rfl
           intro K hK
           go_simp
           obtain ⟨wA, hwA⟩ : ∃ wA : World, wA = w3.alloc (.cells #[.int .i64 E2.h.f0, .int .i64 E2.h.f1, .int .i64 E2.h.f2, .int .i64 E2.h.f3, .int .i64 E2.h.f4, .int .i64 E2.h.f5, .int .i64 E2.h.pair, .int .i64 E2.h.pl, .slice q31 E2.pairs.length q32, .int .i64 E2.h.fn, .int .i64 E2.h.fl, .slice q33 E2.funs.length q34] 30) := ⟨_, rfl⟩
           rw [← hwA]
           have hb : Below w3.heap.size w3 wA := by rw [hwA]; exact bAl _ _
           have HNB := hid (show wA.heap[w3.heap.size]? = some (.cells #[.int .i64 E2.h.f0, .int .i64 E2.h.f1, .int .i64 E2.h.f2, .int .i64 E2.h.f3, .int .i64 E2.h.f4, .int .i64 E2.h.f5, .int .i64 E2.h.pair, .int .i64 E2.h.pl, .slice q31 E2.pairs.length q32, .int .i64 E2.h.fn, .int .i64 E2.h.fl, .slice q33 E2.funs.length q34] 30 (0, 0)) by rw [hwA]; exact heap_alloc_new _ _)
           obtain ⟨rs, hown, hraw⟩ := HROW.out
           rw [HLE.out] at hown
           have HOA := hid (show wA.ownsRow V1.heap.size 30 12 (.slice (some ⟨b1, 0, none⟩) 1 1) 1 (cosCells rs) by rw [hwA]; exact hown.alloc _)
           have HRAW := hid hraw
           have HWA := hid hwA
           replace oc := (hb.cell (p := ⟨_, 8, none⟩) (Nat.lt_of_lt_of_le HG3V.out HBT.out.size)).trans oc
           replace HBT := hid (HBT.out.trans (hb.mono HBT.out.size))
           have HW1 := hid (show V1.heap.size ≤ wA.heap.size from (HKB.out.then HBT.out).size)
           clear hb hwA hown hraw
           clear hHeld
           refine hK.out _ _ (by (try dsimp only); exact HKB.out.then HBT.out) (fun hHeld => ?_)
           clear hK K
           (try simp only [pq1, ls0, ls1])
           refine' tk_call 8 ?hit (by kernel_rfl) ?hrt
           case hit => rfl
           intro K hK
           refine step_append_lies _ (by rfl) _ _ _ (by rfl) V1.heap.size 30 i0 _ 12 128 Tryd.underlying28 hi hz0 hz1 hz2 rfl (by omega) (.slice (some ⟨b1, 0, none⟩) 1 1) 1 (cosCells rs) (by rfl) HOA.out ⟨w3.heap.size, 0, none⟩ 1 1 [.int .i64 E2.h.f0, .int .i64 E2.h.f1, .int .i64 E2.h.f2, .int .i64 E2.h.f3, .int .i64 E2.h.f4, .int .i64 E2.h.f5, .int .i64 E2.h.pair, .int .i64 E2.h.pl, .slice q31 E2.pairs.length q32, .int .i64 E2.h.fn, .int .i64 E2.h.fl, .slice q33 E2.funs.length q34] (by rfl) (by rfl) (World.news_of_block (cs := #[.int .i64 E2.h.f0, .int .i64 E2.h.f1, .int .i64 E2.h.f2, .int .i64 E2.h.f3, .int .i64 E2.h.f4, .int .i64 E2.h.f5, .int .i64 E2.h.pair, .int .i64 E2.h.pl, .slice q31 E2.pairs.length q32, .int .i64 E2.h.fn, .int .i64 E2.h.fl, .slice q33 E2.funs.length q34]) (t := 30) (fr := (0, 0)) HNB.out) (by simp [Value.oneCell']) (by omega) (by unfold maxLen; omega) (by omega) HW1.out wA.heap.size rfl ?_
           intro gg cap w9 hown9 hgrow9 hat9 hlt9
           have hb9 : But (w.heap.size + 3) V1 w9 := (HKB.out.then HBT.out).grown hgrow9 (fun x hx => (HOW.out x hx).1)
           have hbx9 : CBox w9 (w.heap.size + 3) 30 ⟨mixE c d (2) (0) (0) (0), .slice (some ⟨b1, 0, none⟩) 1 1, .slice none 0 0⟩ := (hgrow9.block _ (Nat.lt_of_lt_of_le HG3V.out HBT.out.size) (fun e => by have h1 := (HOW.out _ e.symm).1; have h2 := HG3.out; omega)).trans (HS.out.o.keep HBT.out)
           have hs9 : RmS w w9 ⟨c.h, .slice pa np pc, .slice fa nf fc⟩ ⟨d.h, .slice qa mp qc, .slice ga mf gc⟩ ⟨mixE c d (2) (0) (0) (0), .slice (some ⟨b1, 0, none⟩) 1 1, .slice none 0 0⟩ := HSB.out.but hb9 hbx9
           have hrow9 : RowC 30 (fun x => (N x ∨ x = w.heap.size + 2) ∨ x = w.heap.size + 3) V1.heap.size w9 (.slice (some ⟨gg, 0, none⟩) (1 + 1) cap) ([E1] ++ [E2]) := by
            have h2 : RawCo w3 (fun b => Lc (fun x => (N x ∨ x = w.heap.size + 2) ∨ x = w.heap.size + 3) w3 b ∧ (Value.slice (some ⟨b1, 0, none⟩) 1 1).ownBlock ≠ some b) ⟨E2.h, .slice q31 E2.pairs.length q32, .slice q33 E2.funs.length q34⟩ E2 := HU3.out.raw.mono (fun b h => ⟨⟨h.1, fun e => h.2 (.inl e)⟩, fun e => h.2 (.inr e)⟩) fun _ _ _ => rfl
            have h1 := HRAW.out
            have hg9 := hgrow9
            rw [HWA.out] at hg9
            have hl9 : (Value.slice (some ⟨b1, 0, none⟩) 1 1).ownBlock = some gg ∨ gg = w3.heap.size + 1 := hat9.imp id fun h => by rw [h, HWA.out]; simp
            have hlen := HLE.out
            have h3 := rowc_push (l := [E1]) (cap := cap) h1 h2 hg9 hl9 (by rw [hlen]; exact hown9)
            rw [hlen] at h3
            exact h3
           have hc9 : w9.cell? ⟨(w.heap.size + 3), 8, none⟩ = some (.slice (some ⟨b1, 0, none⟩) 1 1) := hbx9.c8
           have hf9 : w9.frozen? ⟨(w.heap.size + 3), 8, none⟩ = false := hbx9.fr 8
           have HB9 := hid hb9
           have HS9 := hid hs9
           have HROW9 := hid hrow9
           clear hb9 hbx9 hs9 hrow9 hown9 hgrow9 hat9 hlt9
           clear hHeld
           refine hK.out _ _ (by (try dsimp only); exact HB9.out) (fun hHeld => ?_)
           clear hK K
           (try simp only [pq1, ls0, ls1])
           refine' tk_q 9 88 hHeld ?hiu ?hru
           case hiu => (refine ⟨_, rfl, rfl, rfl, fun w hSw => ?_⟩; (try dsimp only at hSw); go_simp; (try with_reducible rfl))
           (try simp only [pq1, ls0, ls1])
           refine' tk_call 10 ?hiv (by kernel_rfl) ?hrv
           case hiv => rfl
           intro K hK
           go_simp
           clear hHeld
           refine hK.out _ _ (by (try dsimp only); exact HB9.out.set _ _) (fun hHeld => ?_)
           clear hK K
           (try simp only [pq1, ls0, ls1])
           refine wpAnyH_done (by kernel_rfl) ?_ _
           refine NoPanic.normal ?_
           go_wp2
           go_meet
           case rel =>
            have hP : P = (2, 0, [E1, E2]) := by rw [HPE.out, if_pos KT.out, if_neg KS.out]
            have hn : un = 2 := by rw [HUN.out, hP]; rfl
            rw [hP, hn]
            exact ⟨some ⟨gg, 0, none⟩, cap, hid (HS9.out.but ((But.refl _ _).set 8 _) (HS9.out.o.s8 (x := .slice (some ⟨gg, 0, none⟩) 2 cap))), hid ((HROW9.out.store (i := 8) (x := .slice (some ⟨gg, 0, none⟩) 2 cap) (.inr rfl) HG3.out).done (HMB.out V1 HSB.out.o.lt) (le_max7 (by simp)))⟩
          case hbo =>
           intro K hK
           go_simp
           go_at_call 24
           refine (rcdr_go (fun x => (fun x => (N x ∨ x = w.heap.size + 2) ∨ x = w.heap.size + 3) x ∨ (Value.slice (some ⟨b1, 0, none⟩) 1 1).ownBlock = some x) c _ wd (fun x hx => hx.elim ((HMB.out wd (Nat.le_trans HSB.out.o.lt (HKB.out.then HBT.out).size)) x) fun h => Nat.lt_of_lt_of_le (HOW.out x h).2 HBT.out.size) (plen_of HOC.out).1 (plen_of HOC.out).2 (HCV.out _ _ (HSB.out.low.trans ((HKB.out.then HBT.out).below (B := w.heap.size) (by omega) HSB.out.low.size)) (fun b h => h.elim (HMN.out b) fun h => .inr (Nat.le_trans HSB.out.low.size (HOW.out b h).1)))).mono ?_
           rintro e w1 ⟨⟨u, rfl, hu⟩, hb⟩
           obtain ⟨q11, q12, q13, q14, rfl, _, _⟩ := hu.form
           have HU1 := hid hu
           replace oc := (hb.cell (p := ⟨_, 8, none⟩) (Nat.lt_of_lt_of_le HG3V.out HBT.out.size)).trans oc
           replace HROW := hid (HROW.out.below hb)
           replace HBT := hid (HBT.out.trans (hb.mono HBT.out.size))
           clear hu hb
           go_wp2_with fail
           clear hHeld
           refine hK.out _ _ (by (try dsimp only); exact HKB.out.then HBT.out) (fun hHeld => ?_)
           clear hK K
           (try simp only [pq1, ls0, ls1])
           refine' tk_two 1 5 ?hiw ?hjw (by kernel_rfl) ?haw ?hbw
           case hiw => rfl
           case hjw => rfl
           case haw =>
            intro K hK
            go_simp
            clear hHeld
            refine hK.out _ _ (by (try dsimp only); exact HKB.out.then HBT.out) (fun hHeld => ?_)
            clear hK K
            (try simp only [pq1, ls0, ls1])
            refine' tk_call 5 ?hix (by kernel_rfl) ?hrx
            case hix => rfl
            intro K hK
            go_simp
            go_at_call 24
            refine (rcdr_go (fun x => (fun x => (N x ∨ x = w.heap.size + 2) ∨ x = w.heap.size + 3) x ∨ (Value.slice (some ⟨b1, 0, none⟩) 1 1).ownBlock = some x) d _ w1 (fun x hx => hx.elim ((HMB.out w1 (Nat.le_trans HSB.out.o.lt (HKB.out.then HBT.out).size)) x) fun h => Nat.lt_of_lt_of_le (HOW.out x h).2 HBT.out.size) (plen_of HOD.out).1 (plen_of HOD.out).2 (HDV.out _ _ (HSB.out.low.trans ((HKB.out.then HBT.out).below (B := w.heap.size) (by omega) HSB.out.low.size)) (fun b h => h.elim (HMN.out b) fun h => .inr (Nat.le_trans HSB.out.low.size (HOW.out b h).1)))).mono ?_
            rintro e w2 ⟨⟨u, rfl, hu⟩, hb⟩
            obtain ⟨q21, q22, q23, q24, rfl, _, _⟩ := hu.form
            have HU2 := hid hu
            replace oc := (hb.cell (p := ⟨_, 8, none⟩) (Nat.lt_of_lt_of_le HG3V.out HBT.out.size)).trans oc
            replace HROW := hid (HROW.out.below hb)
            replace HBT := hid (HBT.out.trans (hb.mono HBT.out.size))
            replace HU1 := hid (HU1.out.below hb)
            clear hu hb
            go_wp2_with fail
            clear hHeld
            refine hK.out _ _ (by (try dsimp only); exact HKB.out.then HBT.out) (fun hHeld => ?_)
            clear hK K
            (try simp only [pq1, ls0, ls1])
            refine' tk_call 6 ?hiy (by kernel_rfl) ?hry
            case hiy => rfl
            intro K hK
            go_simp
            go_at_call 36
            refine (HCB.out w2 _ _ (fun x => (fun x => (N x ∨ x = w.heap.size + 2) ∨ x = w.heap.size + 3) x ∨ (Value.slice (some ⟨b1, 0, none⟩) 1 1).ownBlock = some x) (fun x hx => hx.elim ((HMB.out w2 (Nat.le_trans HSB.out.o.lt (HKB.out.then HBT.out).size)) x) fun h => Nat.lt_of_lt_of_le (HOW.out x h).2 HBT.out.size) HU1.out HU2.out).mono ?_
            rintro e w3 ⟨⟨u, rfl, hu⟩, hb⟩
            obtain ⟨q31, q32, q33, q34, rfl, _, _⟩ := hu.form
            have HU3 := hid hu
            replace oc := (hb.cell (p := ⟨_, 8, none⟩) (Nat.lt_of_lt_of_le HG3V.out HBT.out.size)).trans oc
            replace HROW := hid (HROW.out.below hb)
            replace HBT := hid (HBT.out.trans (hb.mono HBT.out.size))
            clear hu hb
            go_wp2_with fail
            clear hHeld
            refine hK.out _ _ (by (try dsimp only); exact HKB.out.then HBT.out) (fun hHeld => ?_)
            clear hK K
            (try simp only [pq1, ls0, ls1])
            refine' tk_call 7 ?hiz (by kernel_rfl) ?hrz
            case hiz => rfl
            intro K hK
            go_simp
            obtain ⟨wA, hwA⟩ : ∃ wA : World, wA = w3.alloc (.cells #[.int .i64 E2.h.f0, .int .i64 E2.h.f1, .int .i64 E2.h.f2, .int .i64 E2.h.f3, .int .i64 E2.h.f4, .int .i64 E2.h.f5, .int .i64 E2.h.pair, .int .i64 E2.h.pl, .slice q31 E2.pairs.length q32, .int .i64 E2.h.fn, .int .i64 E2.h.fl, .slice q33 E2.funs.length q34] 30) := ⟨_, rfl⟩
            rw [← hwA]
            have hb : Below w3.heap.size w3 wA := by rw [hwA]; exact bAl _ _
            have HNB := hid (show wA.heap[w3.heap.size]? = some (.cells #[.int .i64 E2.h.f0, .int .i64 E2.h.f1, .int .i64 E2.h.f2, .int .i64 E2.h.f3, .int .i64 E2.h.f4, .int .i64 E2.h.f5, .int .i64 E2.h.pair, .int .i64 E2.h.pl, .slice q31 E2.pairs.length q32, .int .i64 E2.h.fn, .int .i64 E2.h.fl, .slice q33 E2.funs.length q34] 30 (0, 0)) by rw [hwA]; exact heap_alloc_new _ _)
            obtain ⟨rs, hown, hraw⟩ := HROW.out
            rw [HLE.out] at hown
            have HOA := hid (show wA.ownsRow V1.heap.size 30 12 (.slice (some ⟨b1, 0, none⟩) 1 1) 1 (cosCells rs) by rw [hwA]; exact hown.alloc _)
            have HRAW := hid hraw
            have HWA := hid hwA
            replace oc := (hb.cell (p := ⟨_, 8, none⟩) (Nat.lt_of_lt_of_le HG3V.out HBT.out.size)).trans oc
            replace HBT := hid (HBT.out.trans (hb.mono HBT.out.size))
            have HW1 := hid (show V1.heap.size ≤ wA.heap.size from (HKB.out.then HBT.out).size)
            clear hb hwA hown hraw
            clear hHeld
            refine hK.out _ _ (by (try dsimp only); exact HKB.out.then HBT.out) (fun hHeld => ?_)
            clear hK K
            (try simp only [pq1, ls0, ls1])
            refine' tk_call 8 ?hi10 (by kernel_rfl) ?hr10
            case hi10 => rfl
            intro K hK
            refine step_append_lies _ (by rfl) _ _ _ (by rfl) V1.heap.size 30 i0 _ 12 128 Tryd.underlying28 hi hz0 hz1 hz2 rfl (by omega) (.slice (some ⟨b1, 0, none⟩) 1 1) 1 (cosCells rs) (by rfl) HOA.out ⟨w3.heap.size, 0, none⟩ 1 1 [.int .i64 E2.h.f0, .int .i64 E2.h.f1, .int .i64 E2.h.f2, .int .i64 E2.h.f3, .int .i64 E2.h.f4, .int .i64 E2.h.f5, .int .i64 E2.h.pair, .int .i64 E2.h.pl, .slice q31 E2.pairs.length q32, .int .i64 E2.h.fn, .int .i64 E2.h.fl, .slice q33 E2.funs.length q34] (by rfl) (by rfl) (World.news_of_block (cs := #[.int .i64 E2.h.f0, .int .i64 E2.h.f1, .int .i64 E2.h.f2, .int .i64 E2.h.f3, .int .i64 E2.h.f4, .int .i64 E2.h.f5, .int .i64 E2.h.pair, .int .i64 E2.h.pl, .slice q31 E2.pairs.length q32, .int .i64 E2.h.fn, .int .i64 E2.h.fl, .slice q33 E2.funs.length q34]) (t := 30) (fr := (0, 0)) HNB.out) (by simp [Value.oneCell']) (by omega) (by unfold maxLen; omega) (by omega) HW1.out wA.heap.size rfl ?_
            intro gg cap w9 hown9 hgrow9 hat9 hlt9
            have hb9 : But (w.heap.size + 3) V1 w9 := (HKB.out.then HBT.out).grown hgrow9 (fun x hx => (HOW.out x hx).1)
            have hbx9 : CBox w9 (w.heap.size + 3) 30 ⟨mixE c d (2) (0) (0) (0), .slice (some ⟨b1, 0, none⟩) 1 1, .slice none 0 0⟩ := (hgrow9.block _ (Nat.lt_of_lt_of_le HG3V.out HBT.out.size) (fun e => by have h1 := (HOW.out _ e.symm).1; have h2 := HG3.out; omega)).trans (HS.out.o.keep HBT.out)
            have hs9 : RmS w w9 ⟨c.h, .slice pa np pc, .slice fa nf fc⟩ ⟨d.h, .slice qa mp qc, .slice ga mf gc⟩ ⟨mixE c d (2) (0) (0) (0), .slice (some ⟨b1, 0, none⟩) 1 1, .slice none 0 0⟩ := HSB.out.but hb9 hbx9
            have hrow9 : RowC 30 (fun x => (N x ∨ x = w.heap.size + 2) ∨ x = w.heap.size + 3) V1.heap.size w9 (.slice (some ⟨gg, 0, none⟩) (1 + 1) cap) ([E1] ++ [E2]) := by
             have h2 : RawCo w3 (fun b => Lc (fun x => (N x ∨ x = w.heap.size + 2) ∨ x = w.heap.size + 3) w3 b ∧ (Value.slice (some ⟨b1, 0, none⟩) 1 1).ownBlock ≠ some b) ⟨E2.h, .slice q31 E2.pairs.length q32, .slice q33 E2.funs.length q34⟩ E2 := HU3.out.raw.mono (fun b h => ⟨⟨h.1, fun e => h.2 (.inl e)⟩, fun e => h.2 (.inr e)⟩) fun _ _ _ => rfl
             have h1 := HRAW.out
             have hg9 := hgrow9
             rw [HWA.out] at hg9
             have hl9 : (Value.slice (some ⟨b1, 0, none⟩) 1 1).ownBlock = some gg ∨ gg = w3.heap.size + 1 := hat9.imp id fun h => by rw [h, HWA.out]; simp
             have hlen := HLE.out
             have h3 := rowc_push (l := [E1]) (cap := cap) h1 h2 hg9 hl9 (by rw [hlen]; exact hown9)
             rw [hlen] at h3
             exact h3
            have hc9 : w9.cell? ⟨(w.heap.size + 3), 8, none⟩ = some (.slice (some ⟨b1, 0, none⟩) 1 1) := hbx9.c8
            have hf9 : w9.frozen? ⟨(w.heap.size + 3), 8, none⟩ = false := hbx9.fr 8
            have HB9 := hid hb9
            have HS9 := hid hs9
            have HROW9 := hid hrow9
            clear hb9 hbx9 hs9 hrow9 hown9 hgrow9 hat9 hlt9
            clear hHeld
            refine hK.out _ _ (by (try dsimp only); exact HB9.out) (fun hHeld => ?_)
            clear hK K
            (try simp only [pq1, ls0, ls1])
            refine' tk_q 9 88 hHeld ?hi11 ?hr11
            case hi11 => (refine ⟨_, rfl, rfl, rfl, fun w hSw => ?_⟩; (try dsimp only at hSw); go_simp; (try with_reducible rfl))
            (try simp only [pq1, ls0, ls1])
            refine' tk_call 10 ?hi12 (by kernel_rfl) ?hr12
            case hi12 => rfl
            intro K hK
            go_simp
            clear hHeld
            refine hK.out _ _ (by (try dsimp only); exact HB9.out.set _ _) (fun hHeld => ?_)
            clear hK K
            (try simp only [pq1, ls0, ls1])
            refine wpAnyH_done (by kernel_rfl) ?_ _
            refine NoPanic.normal ?_
            go_wp2
            go_meet
            case rel =>
             have hP : P = (2, 0, [E1, E2]) := by rw [HPE.out, if_pos KT.out, if_neg KS.out]
             have hn : un = 2 := by rw [HUN.out, hP]; rfl
             rw [hP, hn]
             exact ⟨some ⟨gg, 0, none⟩, cap, hid (HS9.out.but ((But.refl _ _).set 8 _) (HS9.out.o.s8 (x := .slice (some ⟨gg, 0, none⟩) 2 cap))), hid ((HROW9.out.store (i := 8) (x := .slice (some ⟨gg, 0, none⟩) 2 cap) (.inr rfl) HG3.out).done (HMB.out V1 HSB.out.o.lt) (le_max7 (by simp)))⟩
           case hbw =>
            intro K hK
            go_simp
            go_at_call 24
            refine (rcdr_go (fun x => (fun x => (N x ∨ x = w.heap.size + 2) ∨ x = w.heap.size + 3) x ∨ (Value.slice (some ⟨b1, 0, none⟩) 1 1).ownBlock = some x) d _ w1 (fun x hx => hx.elim ((HMB.out w1 (Nat.le_trans HSB.out.o.lt (HKB.out.then HBT.out).size)) x) fun h => Nat.lt_of_lt_of_le (HOW.out x h).2 HBT.out.size) (plen_of HOD.out).1 (plen_of HOD.out).2 (HDV.out _ _ (HSB.out.low.trans ((HKB.out.then HBT.out).below (B := w.heap.size) (by omega) HSB.out.low.size)) (fun b h => h.elim (HMN.out b) fun h => .inr (Nat.le_trans HSB.out.low.size (HOW.out b h).1)))).mono ?_
            rintro e w2 ⟨⟨u, rfl, hu⟩, hb⟩
            obtain ⟨q21, q22, q23, q24, rfl, _, _⟩ := hu.form
            have HU2 := hid hu
            replace oc := (hb.cell (p := ⟨_, 8, none⟩) (Nat.lt_of_lt_of_le HG3V.out HBT.out.size)).trans oc
            replace HROW := hid (HROW.out.below hb)
            replace HBT := hid (HBT.out.trans (hb.mono HBT.out.size))
            replace HU1 := hid (HU1.out.below hb)
            clear hu hb
            go_wp2_with fail
            clear hHeld
            refine hK.out _ _ (by (try dsimp only); exact HKB.out.then HBT.out) (fun hHeld => ?_)
            clear hK K
            (try simp only [pq1, ls0, ls1])
            refine' tk_two 1 6 ?hi13 ?hj13 (by kernel_rfl) ?ha13 ?hb13
            case hi13 => rfl
            case hj13 => rfl
            case ha13 =>
             intro K hK
             go_simp
             clear hHeld
             refine hK.out _ _ (by (try dsimp only); exact HKB.out.then HBT.out) (fun hHeld => ?_)
             clear hK K
             (try simp only [pq1, ls0, ls1])
             refine' tk_call 6 ?hi14 (by kernel_rfl) ?hr14
             case hi14 => rfl
             intro K hK
             go_simp
             go_at_call 36
             refine (HCB.out w2 _ _ (fun x => (fun x => (N x ∨ x = w.heap.size + 2) ∨ x = w.heap.size + 3) x ∨ (Value.slice (some ⟨b1, 0, none⟩) 1 1).ownBlock = some x) (fun x hx => hx.elim ((HMB.out w2 (Nat.le_trans HSB.out.o.lt (HKB.out.then HBT.out).size)) x) fun h => Nat.lt_of_lt_of_le (HOW.out x h).2 HBT.out.size) HU1.out HU2.out).mono ?_
             rintro e w3 ⟨⟨u, rfl, hu⟩, hb⟩
             obtain ⟨q31, q32, q33, q34, rfl, _, _⟩ := hu.form
             have HU3 := hid hu
             replace oc := (hb.cell (p := ⟨_, 8, none⟩) (Nat.lt_of_lt_of_le HG3V.out HBT.out.size)).trans oc
             replace HROW := hid (HROW.out.below hb)
             replace HBT := hid (HBT.out.trans (hb.mono HBT.out.size))
             clear hu hb
             go_wp2_with fail
             clear hHeld
             refine hK.out _ _ (by (try dsimp only); exact HKB.out.then HBT.out) (fun hHeld => ?_)
             clear hK K
             (try simp only [pq1, ls0, ls1])
             refine' tk_call 7 ?hi15 (by kernel_rfl) ?hr15
             case hi15 => rfl
             intro K hK
             go_simp
             obtain ⟨wA, hwA⟩ : ∃ wA : World, wA = w3.alloc (.cells #[.int .i64 E2.h.f0, .int .i64 E2.h.f1, .int .i64 E2.h.f2, .int .i64 E2.h.f3, .int .i64 E2.h.f4, .int .i64 E2.h.f5, .int .i64 E2.h.pair, .int .i64 E2.h.pl, .slice q31 E2.pairs.length q32, .int .i64 E2.h.fn, .int .i64 E2.h.fl, .slice q33 E2.funs.length q34] 30) := ⟨_, rfl⟩
             rw [← hwA]
             have hb : Below w3.heap.size w3 wA := by rw [hwA]; exact bAl _ _
             have HNB := hid (show wA.heap[w3.heap.size]? = some (.cells #[.int .i64 E2.h.f0, .int .i64 E2.h.f1, .int .i64 E2.h.f2, .int .i64 E2.h.f3, .int .i64 E2.h.f4, .int .i64 E2.h.f5, .int .i64 E2.h.pair, .int .i64 E2.h.pl, .slice q31 E2.pairs.length q32, .int .i64 E2.h.fn, .int .i64 E2.h.fl, .slice q33 E2.funs.length q34] 30 (0, 0)) by rw [hwA]; exact heap_alloc_new _ _)
             obtain ⟨rs, hown, hraw⟩ := HROW.out
             rw [HLE.out] at hown
             have HOA := hid (show wA.ownsRow V1.heap.size 30 12 (.slice (some ⟨b1, 0, none⟩) 1 1) 1 (cosCells rs) by rw [hwA]; exact hown.alloc _)
             have HRAW := hid hraw
             have HWA := hid hwA
             replace oc := (hb.cell (p := ⟨_, 8, none⟩) (Nat.lt_of_lt_of_le HG3V.out HBT.out.size)).trans oc
             replace HBT := hid (HBT.out.trans (hb.mono HBT.out.size))
             have HW1 := hid (show V1.heap.size ≤ wA.heap.size from (HKB.out.then HBT.out).size)
             clear hb hwA hown hraw
             clear hHeld
             refine hK.out _ _ (by (try dsimp only); exact HKB.out.then HBT.out) (fun hHeld => ?_)
             clear hK K
             (try simp only [pq1, ls0, ls1])
             refine' tk_call 8 ?hi16 (by kernel_rfl) ?hr16
             case hi16 => rfl
             intro K hK
             refine step_append_lies _ (by rfl) _ _ _ (by rfl) V1.heap.size 30 i0 _ 12 128 Tryd.underlying28 hi hz0 hz1 hz2 rfl (by omega) (.slice (some ⟨b1, 0, none⟩) 1 1) 1 (cosCells rs) (by rfl) HOA.out ⟨w3.heap.size, 0, none⟩ 1 1 [.int .i64 E2.h.f0, .int .i64 E2.h.f1, .int .i64 E2.h.f2, .int .i64 E2.h.f3, .int .i64 E2.h.f4, .int .i64 E2.h.f5, .int .i64 E2.h.pair, .int .i64 E2.h.pl, .slice q31 E2.pairs.length q32, .int .i64 E2.h.fn, .int .i64 E2.h.fl, .slice q33 E2.funs.length q34] (by rfl) (by rfl) (World.news_of_block (cs := #[.int .i64 E2.h.f0, .int .i64 E2.h.f1, .int .i64 E2.h.f2, .int .i64 E2.h.f3, .int .i64 E2.h.f4, .int .i64 E2.h.f5, .int .i64 E2.h.pair, .int .i64 E2.h.pl, .slice q31 E2.pairs.length q32, .int .i64 E2.h.fn, .int .i64 E2.h.fl, .slice q33 E2.funs.length q34]) (t := 30) (fr := (0, 0)) HNB.out) (by simp [Value.oneCell']) (by omega) (by unfold maxLen; omega) (by omega) HW1.out wA.heap.size rfl ?_
             intro gg cap w9 hown9 hgrow9 hat9 hlt9
             have hb9 : But (w.heap.size + 3) V1 w9 := (HKB.out.then HBT.out).grown hgrow9 (fun x hx => (HOW.out x hx).1)
             have hbx9 : CBox w9 (w.heap.size + 3) 30 ⟨mixE c d (2) (0) (0) (0), .slice (some ⟨b1, 0, none⟩) 1 1, .slice none 0 0⟩ := (hgrow9.block _ (Nat.lt_of_lt_of_le HG3V.out HBT.out.size) (fun e => by have h1 := (HOW.out _ e.symm).1; have h2 := HG3.out; omega)).trans (HS.out.o.keep HBT.out)
             have hs9 : RmS w w9 ⟨c.h, .slice pa np pc, .slice fa nf fc⟩ ⟨d.h, .slice qa mp qc, .slice ga mf gc⟩ ⟨mixE c d (2) (0) (0) (0), .slice (some ⟨b1, 0, none⟩) 1 1, .slice none 0 0⟩ := HSB.out.but hb9 hbx9
             have hrow9 : RowC 30 (fun x => (N x ∨ x = w.heap.size + 2) ∨ x = w.heap.size + 3) V1.heap.size w9 (.slice (some ⟨gg, 0, none⟩) (1 + 1) cap) ([E1] ++ [E2]) := by
              have h2 : RawCo w3 (fun b => Lc (fun x => (N x ∨ x = w.heap.size + 2) ∨ x = w.heap.size + 3) w3 b ∧ (Value.slice (some ⟨b1, 0, none⟩) 1 1).ownBlock ≠ some b) ⟨E2.h, .slice q31 E2.pairs.length q32, .slice q33 E2.funs.length q34⟩ E2 := HU3.out.raw.mono (fun b h => ⟨⟨h.1, fun e => h.2 (.inl e)⟩, fun e => h.2 (.inr e)⟩) fun _ _ _ => rfl
              have h1 := HRAW.out
              have hg9 := hgrow9
              rw [HWA.out] at hg9
              have hl9 : (Value.slice (some ⟨b1, 0, none⟩) 1 1).ownBlock = some gg ∨ gg = w3.heap.size + 1 := hat9.imp id fun h => by rw [h, HWA.out]; simp
              have hlen := HLE.out
              have h3 := rowc_push (l := [E1]) (cap := cap) h1 h2 hg9 hl9 (by rw [hlen]; exact hown9)
              rw [hlen] at h3
              exact h3
             have hc9 : w9.cell? ⟨(w.heap.size + 3), 8, none⟩ = some (.slice (some ⟨b1, 0, none⟩) 1 1) := hbx9.c8
             have hf9 : w9.frozen? ⟨(w.heap.size + 3), 8, none⟩ = false := hbx9.fr 8
             have HB9 := hid hb9
             have HS9 := hid hs9
             have HROW9 := hid hrow9
             clear hb9 hbx9 hs9 hrow9 hown9 hgrow9 hat9 hlt9
             clear hHeld
             refine hK.out _ _ (by (try dsimp only); exact HB9.out) (fun hHeld => ?_)
             clear hK K
             (try simp only [pq1, ls0, ls1])
             refine' tk_q 9 88 hHeld ?hi17 ?hr17
             case hi17 => (refine ⟨_, rfl, rfl, rfl, fun w hSw => ?_⟩; (try dsimp only at hSw); go_simp; (try with_reducible rfl))
             (try simp only [pq1, ls0, ls1])
             refine' tk_call 10 ?hi18 (by kernel_rfl) ?hr18
             case hi18 => rfl
             intro K hK
             go_simp
             clear hHeld
             refine hK.out _ _ (by (try dsimp only); exact HB9.out.set _ _) (fun hHeld => ?_)
             clear hK K
             (try simp only [pq1, ls0, ls1])
             refine wpAnyH_done (by kernel_rfl) ?_ _
             refine NoPanic.normal ?_
             go_wp2
             go_meet
             case rel =>
              have hP : P = (2, 0, [E1, E2]) := by rw [HPE.out, if_pos KT.out, if_neg KS.out]
              have hn : un = 2 := by rw [HUN.out, hP]; rfl
              rw [hP, hn]
              exact ⟨some ⟨gg, 0, none⟩, cap, hid (HS9.out.but ((But.refl _ _).set 8 _) (HS9.out.o.s8 (x := .slice (some ⟨gg, 0, none⟩) 2 cap))), hid ((HROW9.out.store (i := 8) (x := .slice (some ⟨gg, 0, none⟩) 2 cap) (.inr rfl) HG3.out).done (HMB.out V1 HSB.out.o.lt) (le_max7 (by simp)))⟩
            case hb13 =>
             intro K hK
             go_simp
             go_at_call 36
             refine (HCB.out w2 _ _ (fun x => (fun x => (N x ∨ x = w.heap.size + 2) ∨ x = w.heap.size + 3) x ∨ (Value.slice (some ⟨b1, 0, none⟩) 1 1).ownBlock = some x) (fun x hx => hx.elim ((HMB.out w2 (Nat.le_trans HSB.out.o.lt (HKB.out.then HBT.out).size)) x) fun h => Nat.lt_of_lt_of_le (HOW.out x h).2 HBT.out.size) HU1.out HU2.out).mono ?_
             rintro e w3 ⟨⟨u, rfl, hu⟩, hb⟩
             obtain ⟨q31, q32, q33, q34, rfl, _, _⟩ := hu.form
             have HU3 := hid hu
             replace oc := (hb.cell (p := ⟨_, 8, none⟩) (Nat.lt_of_lt_of_le HG3V.out HBT.out.size)).trans oc
             replace HROW := hid (HROW.out.below hb)
             replace HBT := hid (HBT.out.trans (hb.mono HBT.out.size))
             clear hu hb
             go_wp2_with fail
             clear hHeld
             refine hK.out _ _ (by (try dsimp only); exact HKB.out.then HBT.out) (fun hHeld => ?_)
             clear hK K
             (try simp only [pq1, ls0, ls1])
             refine' tk_two 1 7 ?hi19 ?hj19 (by kernel_rfl) ?ha19 ?hb19
             case hi19 => rfl
             case hj19 => rfl
             case ha19 =>
              intro K hK
              go_simp
              clear hHeld
              refine hK.out _ _ (by (try dsimp only); exact HKB.out.then HBT.out) (fun hHeld => ?_)
              clear hK K
              (try simp only [pq1, ls0, ls1])
              refine' tk_call 7 ?hi1a (by kernel_rfl) ?hr1a
              case hi1a => rfl
              intro K hK
              go_simp
              obtain ⟨wA, hwA⟩ : ∃ wA : World, wA = w3.alloc (.cells #[.int .i64 E2.h.f0, .int .i64 E2.h.f1, .int .i64 E2.h.f2, .int .i64 E2.h.f3, .int .i64 E2.h.f4, .int .i64 E2.h.f5, .int .i64 E2.h.pair, .int .i64 E2.h.pl, .slice q31 E2.pairs.length q32, .int .i64 E2.h.fn, .int .i64 E2.h.fl, .slice q33 E2.funs.length q34] 30) := ⟨_, rfl⟩
              rw [← hwA]
              have hb : Below w3.heap.size w3 wA := by rw [hwA]; exact bAl _ _
              have HNB := hid (show wA.heap[w3.heap.size]? = some (.cells #[.int .i64 E2.h.f0, .int .i64 E2.h.f1, .int .i64 E2.h.f2, .int .i64 E2.h.f3, .int .i64 E2.h.f4, .int .i64 E2.h.f5, .int .i64 E2.h.pair, .int .i64 E2.h.pl, .slice q31 E2.pairs.length q32, .int .i64 E2.h.fn, .int .i64 E2.h.fl, .slice q33 E2.funs.length q34] 30 (0, 0)) by rw [hwA]; exact heap_alloc_new _ _)
              obtain ⟨rs, hown, hraw⟩ := HROW.out
              rw [HLE.out] at hown
              have HOA := hid (show wA.ownsRow V1.heap.size 30 12 (.slice (some ⟨b1, 0, none⟩) 1 1) 1 (cosCells rs) by rw [hwA]; exact hown.alloc _)
              have HRAW := hid hraw
              have HWA := hid hwA
              replace oc := (hb.cell (p := ⟨_, 8, none⟩) (Nat.lt_of_lt_of_le HG3V.out HBT.out.size)).trans oc
              replace HBT := hid (HBT.out.trans (hb.mono HBT.out.size))
              have HW1 := hid (show V1.heap.size ≤ wA.heap.size from (HKB.out.then HBT.out).size)
              clear hb hwA hown hraw
              clear hHeld
              refine hK.out _ _ (by (try dsimp only); exact HKB.out.then HBT.out) (fun hHeld => ?_)
              clear hK K
              (try simp only [pq1, ls0, ls1])
              refine' tk_call 8 ?hi1b (by kernel_rfl) ?hr1b
              case hi1b => rfl
              intro K hK
              refine step_append_lies _ (by rfl) _ _ _ (by rfl) V1.heap.size 30 i0 _ 12 128 Tryd.underlying28 hi hz0 hz1 hz2 rfl (by omega) (.slice (some ⟨b1, 0, none⟩) 1 1) 1 (cosCells rs) (by rfl) HOA.out ⟨w3.heap.size, 0, none⟩ 1 1 [.int .i64 E2.h.f0, .int .i64 E2.h.f1, .int .i64 E2.h.f2, .int .i64 E2.h.f3, .int .i64 E2.h.f4, .int .i64 E2.h.f5, .int .i64 E2.h.pair, .int .i64 E2.h.pl, .slice q31 E2.pairs.length q32, .int .i64 E2.h.fn, .int .i64 E2.h.fl, .slice q33 E2.funs.length q34] (by rfl) (by rfl) (World.news_of_block (cs := #[.int .i64 E2.h.f0, .int .i64 E2.h.f1, .int .i64 E2.h.f2, .int .i64 E2.h.f3, .int .i64 E2.h.f4, .int .i64 E2.h.f5, .int .i64 E2.h.pair, .int .i64 E2.h.pl, .slice q31 E2.pairs.length q32, .int .i64 E2.h.fn, .int .i64 E2.h.fl, .slice q33 E2.funs.length q34]) (t := 30) (fr := (0, 0)) HNB.out) (by simp [Value.oneCell']) (by omega) (by unfold maxLen; omega) (by omega) HW1.out wA.heap.size rfl ?_
              intro gg cap w9 hown9 hgrow9 hat9 hlt9
              have hb9 : But (w.heap.size + 3) V1 w9 := (HKB.out.then HBT.out).grown hgrow9 (fun x hx => (HOW.out x hx).1)
              have hbx9 : CBox w9 (w.heap.size + 3) 30 ⟨mixE c d (2) (0) (0) (0), .slice (some ⟨b1, 0, none⟩) 1 1, .slice none 0 0⟩ := (hgrow9.block _ (Nat.lt_of_lt_of_le HG3V.out HBT.out.size) (fun e => by have h1 := (HOW.out _ e.symm).1; have h2 := HG3.out; omega)).trans (HS.out.o.keep HBT.out)
              have hs9 : RmS w w9 ⟨c.h, .slice pa np pc, .slice fa nf fc⟩ ⟨d.h, .slice qa mp qc, .slice ga mf gc⟩ ⟨mixE c d (2) (0) (0) (0), .slice (some ⟨b1, 0, none⟩) 1 1, .slice none 0 0⟩ := HSB.out.but hb9 hbx9
              have hrow9 : RowC 30 (fun x => (N x ∨ x = w.heap.size + 2) ∨ x = w.heap.size + 3) V1.heap.size w9 (.slice (some ⟨gg, 0, none⟩) (1 + 1) cap) ([E1] ++ [E2]) := by
               have h2 : RawCo w3 (fun b => Lc (fun x => (N x ∨ x = w.heap.size + 2) ∨ x = w.heap.size + 3) w3 b ∧ (Value.slice (some ⟨b1, 0, none⟩) 1 1).ownBlock ≠ some b) ⟨E2.h, .slice q31 E2.pairs.length q32, .slice q33 E2.funs.length q34⟩ E2 := HU3.out.raw.mono (fun b h => ⟨⟨h.1, fun e => h.2 (.inl e)⟩, fun e => h.2 (.inr e)⟩) fun _ _ _ => rfl
               have h1 := HRAW.out
               have hg9 := hgrow9
               rw [HWA.out] at hg9
               have hl9 : (Value.slice (some ⟨b1, 0, none⟩) 1 1).ownBlock = some gg ∨ gg = w3.heap.size + 1 := hat9.imp id fun h => by rw [h, HWA.out]; simp
               have hlen := HLE.out
               have h3 := rowc_push (l := [E1]) (cap := cap) h1 h2 hg9 hl9 (by rw [hlen]; exact hown9)
               rw [hlen] at h3
               exact h3
              have hc9 : w9.cell? ⟨(w.heap.size + 3), 8, none⟩ = some (.slice (some ⟨b1, 0, none⟩) 1 1) := hbx9.c8
              have hf9 : w9.frozen? ⟨(w.heap.size + 3), 8, none⟩ = false := hbx9.fr 8
              have HB9 := hid hb9
              have HS9 := hid hs9
              have HROW9 := hid hrow9
              clear hb9 hbx9 hs9 hrow9 hown9 hgrow9 hat9 hlt9
              clear hHeld
              refine hK.out _ _ (by (try dsimp only); exact HB9.out) (fun hHeld => ?_)
              clear hK K
              (try simp only [pq1, ls0, ls1])
              refine' tk_q 9 88 hHeld ?hi1c ?hr1c
              case hi1c => (refine ⟨_, rfl, rfl, rfl, fun w hSw => ?_⟩; (try dsimp only at hSw); go_simp; (try with_reducible rfl))
              (try simp only [pq1, ls0, ls1])
              refine' tk_call 10 ?hi1d (by kernel_rfl) ?hr1d
              case hi1d => rfl
              intro K hK
              go_simp
              clear hHeld
              refine hK.out _ _ (by (try dsimp only); exact HB9.out.set _ _) (fun hHeld => ?_)
              clear hK K
              (try simp only [pq1, ls0, ls1])
              refine wpAnyH_done (by kernel_rfl) ?_ _
              refine NoPanic.normal ?_
              go_wp2
              go_meet
              case rel =>
               have hP : P = (2, 0, [E1, E2]) := by rw [HPE.out, if_pos KT.out, if_neg KS.out]
               have hn : un = 2 := by rw [HUN.out, hP]; rfl
               rw [hP, hn]
               exact ⟨some ⟨gg, 0, none⟩, cap, hid (HS9.out.but ((But.refl _ _).set 8 _) (HS9.out.o.s8 (x := .slice (some ⟨gg, 0, none⟩) 2 cap))), hid ((HROW9.out.store (i := 8) (x := .slice (some ⟨gg, 0, none⟩) 2 cap) (.inr rfl) HG3.out).done (HMB.out V1 HSB.out.o.lt) (le_max7 (by simp)))⟩
             case hb19 =>
              intro K hK
              go_simp
              obtain ⟨wA, hwA⟩ : ∃ wA : World, wA = w3.alloc (.cells #[.int .i64 E2.h.f0, .int .i64 E2.h.f1, .int .i64 E2.h.f2, .int .i64 E2.h.f3, .int .i64 E2.h.f4, .int .i64 E2.h.f5, .int .i64 E2.h.pair, .int .i64 E2.h.pl, .slice q31 E2.pairs.length q32, .int .i64 E2.h.fn, .int .i64 E2.h.fl, .slice q33 E2.funs.length q34] 30) := ⟨_, rfl⟩
              rw [← hwA]
              have hb : Below w3.heap.size w3 wA := by rw [hwA]; exact bAl _ _
              have HNB := hid (show wA.heap[w3.heap.size]? = some (.cells #[.int .i64 E2.h.f0, .int .i64 E2.h.f1, .int .i64 E2.h.f2, .int .i64 E2.h.f3, .int .i64 E2.h.f4, .int .i64 E2.h.f5, .int .i64 E2.h.pair, .int .i64 E2.h.pl, .slice q31 E2.pairs.length q32, .int .i64 E2.h.fn, .int .i64 E2.h.fl, .slice q33 E2.funs.length q34] 30 (0, 0)) by rw [hwA]; exact heap_alloc_new _ _)
              obtain ⟨rs, hown, hraw⟩ := HROW.out
              rw [HLE.out] at hown
              have HOA := hid (show wA.ownsRow V1.heap.size 30 12 (.slice (some ⟨b1, 0, none⟩) 1 1) 1 (cosCells rs) by rw [hwA]; exact hown.alloc _)
              have HRAW := hid hraw
              have HWA := hid hwA
              replace oc := (hb.cell (p := ⟨_, 8, none⟩) (Nat.lt_of_lt_of_le HG3V.out HBT.out.size)).trans oc
              replace HBT := hid (HBT.out.trans (hb.mono HBT.out.size))
              have HW1 := hid (show V1.heap.size ≤ wA.heap.size from (HKB.out.then HBT.out).size)
              clear hb hwA hown hraw
              clear hHeld
              refine hK.out _ _ (by (try dsimp only); exact HKB.out.then HBT.out) (fun hHeld => ?_)
              clear hK K
              (try simp only [pq1, ls0, ls1])
              refine' tk_call 1 ?hi1e (by kernel_rfl) ?hr1e
              case hi1e => rfl
              intro K hK
              go_simp
              clear hHeld
              refine hK.out _ _ (by (try dsimp only); exact HKB.out.then HBT.out) (fun hHeld => ?_)
              clear hK K
              (try simp only [pq1, ls0, ls1])
              refine' tk_call 8 ?hi1f (by kernel_rfl) ?hr1f
              case hi1f => rfl
              intro K hK
              refine step_append_lies _ (by rfl) _ _ _ (by rfl) V1.heap.size 30 i0 _ 12 128 Tryd.underlying28 hi hz0 hz1 hz2 rfl (by omega) (.slice (some ⟨b1, 0, none⟩) 1 1) 1 (cosCells rs) (by rfl) HOA.out ⟨w3.heap.size, 0, none⟩ 1 1 [.int .i64 E2.h.f0, .int .i64 E2.h.f1, .int .i64 E2.h.f2, .int .i64 E2.h.f3, .int .i64 E2.h.f4, .int .i64 E2.h.f5, .int .i64 E2.h.pair, .int .i64 E2.h.pl, .slice q31 E2.pairs.length q32, .int .i64 E2.h.fn, .int .i64 E2.h.fl, .slice q33 E2.funs.length q34] (by rfl) (by rfl) (World.news_of_block (cs := #[.int .i64 E2.h.f0, .int .i64 E2.h.f1, .int .i64 E2.h.f2, .int .i64 E2.h.f3, .int .i64 E2.h.f4, .int .i64 E2.h.f5, .int .i64 E2.h.pair, .int .i64 E2.h.pl, .slice q31 E2.pairs.length q32, .int .i64 E2.h.fn, .int .i64 E2.h.fl, .slice q33 E2.funs.length q34]) (t := 30) (fr := (0, 0)) HNB.out) (by simp [Value.oneCell']) (by omega) (by unfold maxLen; omega) (by omega) HW1.out wA.heap.size rfl ?_
              intro gg cap w9 hown9 hgrow9 hat9 hlt9
              have hb9 : But (w.heap.size + 3) V1 w9 := (HKB.out.then HBT.out).grown hgrow9 (fun x hx => (HOW.out x hx).1)
              have hbx9 : CBox w9 (w.heap.size + 3) 30 ⟨mixE c d (2) (0) (0) (0), .slice (some ⟨b1, 0, none⟩) 1 1, .slice none 0 0⟩ := (hgrow9.block _ (Nat.lt_of_lt_of_le HG3V.out HBT.out.size) (fun e => by have h1 := (HOW.out _ e.symm).1; have h2 := HG3.out; omega)).trans (HS.out.o.keep HBT.out)
              have hs9 : RmS w w9 ⟨c.h, .slice pa np pc, .slice fa nf fc⟩ ⟨d.h, .slice qa mp qc, .slice ga mf gc⟩ ⟨mixE c d (2) (0) (0) (0), .slice (some ⟨b1, 0, none⟩) 1 1, .slice none 0 0⟩ := HSB.out.but hb9 hbx9
              have hrow9 : RowC 30 (fun x => (N x ∨ x = w.heap.size + 2) ∨ x = w.heap.size + 3) V1.heap.size w9 (.slice (some ⟨gg, 0, none⟩) (1 + 1) cap) ([E1] ++ [E2]) := by
               have h2 : RawCo w3 (fun b => Lc (fun x => (N x ∨ x = w.heap.size + 2) ∨ x = w.heap.size + 3) w3 b ∧ (Value.slice (some ⟨b1, 0, none⟩) 1 1).ownBlock ≠ some b) ⟨E2.h, .slice q31 E2.pairs.length q32, .slice q33 E2.funs.length q34⟩ E2 := HU3.out.raw.mono (fun b h => ⟨⟨h.1, fun e => h.2 (.inl e)⟩, fun e => h.2 (.inr e)⟩) fun _ _ _ => rfl
               have h1 := HRAW.out
               have hg9 := hgrow9
               rw [HWA.out] at hg9
               have hl9 : (Value.slice (some ⟨b1, 0, none⟩) 1 1).ownBlock = some gg ∨ gg = w3.heap.size + 1 := hat9.imp id fun h => by rw [h, HWA.out]; simp
               have hlen := HLE.out
               have h3 := rowc_push (l := [E1]) (cap := cap) h1 h2 hg9 hl9 (by rw [hlen]; exact hown9)
               rw [hlen] at h3
               exact h3
              have hc9 : w9.cell? ⟨(w.heap.size + 3), 8, none⟩ = some (.slice (some ⟨b1, 0, none⟩) 1 1) := hbx9.c8
              have hf9 : w9.frozen? ⟨(w.heap.size + 3), 8, none⟩ = false := hbx9.fr 8
              have HB9 := hid hb9
              have HS9 := hid hs9
              have HROW9 := hid hrow9
              clear hb9 hbx9 hs9 hrow9 hown9 hgrow9 hat9 hlt9
              clear hHeld
              refine hK.out _ _ (by (try dsimp only); exact HB9.out) (fun hHeld => ?_)
              clear hK K
              (try simp only [pq1, ls0, ls1])
              refine' tk_q 9 88 hHeld ?hi1g ?hr1g
              case hi1g => (refine ⟨_, rfl, rfl, rfl, fun w hSw => ?_⟩; (try dsimp only at hSw); go_simp; (try with_reducible rfl))
              (try simp only [pq1, ls0, ls1])
              refine' tk_call 10 ?hi1h (by kernel_rfl) ?hr1h
              case hi1h => rfl
              intro K hK
              go_simp
              clear hHeld
              refine hK.out _ _ (by (try dsimp only); exact HB9.out.set _ _) (fun hHeld => ?_)
              clear hK K
              (try simp only [pq1, ls0, ls1])
              refine wpAnyH_done (by kernel_rfl) ?_ _
              refine NoPanic.normal ?_
              go_wp2
              go_meet
              case rel =>
               have hP : P = (2, 0, [E1, E2]) := by rw [HPE.out, if_pos KT.out, if_neg KS.out]
               have hn : un = 2 := by rw [HUN.out, hP]; rfl
               rw [hP, hn]
               exact ⟨some ⟨gg, 0, none⟩, cap, hid (HS9.out.but ((But.refl _ _).set 8 _) (HS9.out.o.s8 (x := .slice (some ⟨gg, 0, none⟩) 2 cap))), hid ((HROW9.out.store (i := 8) (x := .slice (some ⟨gg, 0, none⟩) 2 cap) (.inr rfl) HG3.out).done (HMB.out V1 HSB.out.o.lt) (le_max7 (by simp)))⟩
         | true =>
          have KS := hid (show c.h.pair = 3 ∧ d.h.pair = 3 from of_decide_eq_true Hzs.out.symm)
          clear Hzs
          have o6 : V2.cell? ⟨(w.heap.size + 3), 6, none⟩ = some (.int .i64 2) := HS.out.o.c6
          have fo6 : V2.frozen? ⟨(w.heap.size + 3), 6, none⟩ = false := HS.out.o.fr 6
          go_upto_region 18 with fail
          obtain ⟨V3, hw⟩ : ∃ x, x = ((V2).setCell ⟨(w.heap.size + 3), 6, none⟩ (.int .i64 3)) := ⟨_, rfl⟩
          rw [← hw]
          have hk : But (w.heap.size + 3) V2 V3 := by rw [hw]; exact ((But.refl (w.heap.size + 3) V2).set 6 (.int .i64 3))
          replace HS := hid (show RmS w V3 ⟨c.h, .slice pa np pc, .slice fa nf fc⟩ ⟨d.h, .slice qa mp qc, .slice ga mf gc⟩ ⟨mixE c d (3) (0) (0) (0), .slice (some ⟨b1, 0, none⟩) 1 1, .slice none 0 0⟩ from HS.out.but hk (by rw [hw]; exact (HS.out.o.s6)))
          have hwv := hw
          replace HROW := hid (show RowC 30 (fun x => (N x ∨ x = w.heap.size + 2) ∨ x = w.heap.size + 3) V1.heap.size V3 (.slice (some ⟨b1, 0, none⟩) 1 1) [E1] by rw [hwv]; exact HROW.out.store (.inr rfl) HG3.out)
          clear hk hw hwv
          clear o6 fo6
          have x7 : V3.cell? ⟨w.heap.size, 7, none⟩ = some (.int .i64 c.h.pl) := HS.out.x.c7
          have y7 : V3.cell? ⟨(w.heap.size + 1), 7, none⟩ = some (.int .i64 d.h.pl) := HS.out.y.c7
          go_wp2_with fail
          refine (reither_go c.h.pl d.h.pl V3).mono ?_
          rintro e w4 ⟨rfl, rfl⟩
          have o7 : w4.cell? ⟨(w.heap.size + 3), 7, none⟩ = some (.int .i64 0) := HS.out.o.c7
          have fo7 : w4.frozen? ⟨(w.heap.size + 3), 7, none⟩ = false := HS.out.o.fr 7
          go_wp2
          go_meet
          case rel =>
           have hP : P = (3, eithC c.h.pl d.h.pl, [E1]) := by rw [HPE.out, if_pos KT.out, if_pos KS.out]
           have hn : un = 1 := by rw [HUN.out, hP]; rfl
           rw [hP, hn]
           exact ⟨some ⟨b1, 0, none⟩, 1, hid (HS.out.but ((But.refl _ _).set 7 _) (HS.out.o.s7 (x := eithC c.h.pl d.h.pl))), hid ((HROW.out.store (i := 7) (x := .int .i64 (eithC c.h.pl d.h.pl)) (.inr rfl) HG3.out).done (HMB.out V1 HSB.out.o.lt) (le_max7 (by simp)))⟩
      case rest =>
       obtain ⟨ua, ub, HS2, HPR⟩ := hcut
       clear HS HROWX
       obtain ⟨W4, rfl⟩ : ∃ x, x = wc := ⟨_, rfl⟩
       have HS := HS2
       clear HS2
       clear HG HGL HXX HXN
       obtain ⟨x0, x1, x2, x3, x4, x5, x6, x7, x8, x9, x10, x11⟩ := HS.out.x.cs
       (try dsimp only at x0 x1 x2 x3 x4 x5 x6 x7 x8 x9 x10 x11)
       obtain ⟨y0, y1, y2, y3, y4, y5, y6, y7, y8, y9, y10, y11⟩ := HS.out.y.cs
       (try dsimp only at y0 y1 y2 y3 y4 y5 y6 y7 y8 y9 y10 y11)
       go_upto_region 21 with fail
       obtain ⟨gy, hg⟩ : ∃ x, x = W4.heap.size := ⟨_, rfl⟩
       obtain ⟨W5, hw⟩ : ∃ x : World, x = W4.alloc (.cells #[.int .i64 c.h.f0, .int .i64 c.h.f1, .int .i64 c.h.f2, .int .i64 c.h.f3, .int .i64 c.h.f4, .int .i64 c.h.f5, .int .i64 c.h.pair, .int .i64 c.h.pl, .slice pa np pc, .int .i64 c.h.fn, .int .i64 c.h.fl, .slice fa nf fc] 30) := ⟨_, rfl⟩
       rw [← hw, ← hg]
       have hb : Below W4.heap.size W4 W5 := by rw [hw]; exact bAl _ _
       have HG := hid (show CBox W5 gy 30 ⟨c.h, .slice pa np pc, .slice fa nf fc⟩ by rw [hw, hg]; exact CBox.made W4 30 ⟨c.h, .slice pa np pc, .slice fa nf fc⟩)
       have HGL := hid (show w.heap.size + 4 ≤ gy by rw [hg]; exact HS.out.o.lt)
       replace HS := hid (HS.out.keep hb)
       have HOHPR := hid (CoSN.later (M := fun x => (fun x => (N x ∨ x = w.heap.size + 2) ∨ x = w.heap.size + 3) x ∨ x = gy) HPR.out hb (fun x h => h.elim .inl fun h => .inr (by rw [h, hg]; exact Nat.le_refl _)))
       replace HPR := hid (CoSN.below HPR.out hb)
       clear hb hw hg
       clear x0 y0 x1 y1 x2 y2 x3 y3 x4 y4 x5 y5 x6 y6 x7 y7 x8 y8 x9 y9 x10 y10 x11 y11
       obtain ⟨Y, hX⟩ : ∃ x : Co, x = if c.h.fn ≠ 1 ∧ d.h.fn ≠ 0 then d else c := ⟨_, rfl⟩
       obtain ⟨xn, hxn⟩ : ∃ x, x = Y.funs.length := ⟨_, rfl⟩
       have HXX := hid hX
       have HXN := hid hxn
       clear hX hxn
       go_upto_region 21 with fail
       go_cut [97] from 90 to 97 (fun cc wx => ∃ zz : Bool, cc = .bool zz ∧ Hid (zz = decide (c.h.fn ≠ 1 ∧ d.h.fn ≠ 0)) ∧ W5 = wx)
       case first =>
        have x9 : W5.cell? ⟨w.heap.size, 9, none⟩ = some (.int .i64 c.h.fn) := HS.out.x.c9
        have y9 : W5.cell? ⟨(w.heap.size + 1), 9, none⟩ = some (.int .i64 d.h.fn) := HS.out.y.c9
        by_cases k0 : c.h.fn ≠ 1
        case neg =>
         have b0 : (c.h.fn != 1) = false := by simpa using k0
         have K0 := hid k0
         clear k0
         go_wp2
         go_meet
         case rel => exact ⟨false, rfl, hid (decide_eq_false (p := c.h.fn ≠ 1 ∧ d.h.fn ≠ 0) (fun h => by have h1 := K0.out; omega)).symm, rfl⟩
        have b0 : (c.h.fn != 1) = true := by simpa using k0
        have K0 := hid k0
        clear k0
        by_cases k1 : d.h.fn ≠ 0
        case neg =>
         have b1 : (d.h.fn != 0) = false := by simpa using k1
         have K1 := hid k1
         clear k1
         go_wp2
         go_meet
         case rel => exact ⟨false, rfl, hid (decide_eq_false (p := c.h.fn ≠ 1 ∧ d.h.fn ≠ 0) (fun h => by have h1 := K1.out; omega)).symm, rfl⟩
        have b1 : (d.h.fn != 0) = true := by simpa using k1
        have K1 := hid k1
        clear k1
        go_wp2
        go_meet
        case rel => exact ⟨true, rfl, hid (decide_eq_true (p := c.h.fn ≠ 1 ∧ d.h.fn ≠ 0) (by have h0 := K0.out; have h1 := K1.out; omega)).symm, rfl⟩
       case rest =>
        obtain ⟨zt, rfl, Hzt, rfl⟩ := hcut
        go_upto_if 97 with fail
        go_cut [] from 97 to 98 (fun wx => ∃ (xa : Option Addr) (xc : Nat) (yv : Value), Hid (CBox wx gy 30 ⟨Y.h, yv, .slice xa xn xc⟩) ∧ Hid (CoS wx (Lc (fun x => (N x ∨ x = w.heap.size + 2) ∨ x = w.heap.size + 3) wx) (.slice xa xn xc) Y.funs) ∧ Hid (RmS w wx ⟨c.h, .slice pa np pc, .slice fa nf fc⟩ ⟨d.h, .slice qa mp qc, .slice ga mf gc⟩ ⟨mixE c d (P.1) (P.2.1) (0) (0), .slice ua un ub, .slice none 0 0⟩) ∧ Hid (CoS wx (Lc (fun x => (N x ∨ x = w.heap.size + 2) ∨ x = w.heap.size + 3) wx) (.slice ua un ub) (P.2.2)))
        case first =>
         cases zt with
         | false =>
          have KT := hid (show ¬ (c.h.fn ≠ 1 ∧ d.h.fn ≠ 0) from of_decide_eq_false Hzt.out.symm)
          clear Hzt
          go_wp2
          go_meet
          case rel =>
           have hX : Y = c := by rw [HXX.out, if_neg KT.out]
           have hn : xn = nf := by rw [HXN.out, hX]; exact (HFN).out.symm
           rw [hX, hn]
           exact ⟨fa, fc, .slice pa np pc, HG, hid (HCF.out _ HS.out.low), HS, HPR⟩
         | true =>
          have KT := hid (show c.h.fn ≠ 1 ∧ d.h.fn ≠ 0 from of_decide_eq_true Hzt.out.symm)
          clear Hzt
          obtain ⟨y0, y1, y2, y3, y4, y5, y6, y7, y8, y9, y10, y11⟩ := HS.out.y.cs
          (try dsimp only at y0 y1 y2 y3 y4 y5 y6 y7 y8 y9 y10 y11)
          obtain ⟨z0, z1, z2, z3, z4, z5, z6, z7, z8, z9, z10, z11⟩ := HG.out.cs
          (try dsimp only at z0 z1 z2 z3 z4 z5 z6 z7 z8 z9 z10 z11)
          obtain ⟨fr0, fr1, fr2, fr3, fr4, fr5, fr6, fr7, fr8, fr9, fr10, fr11⟩ := HG.out.frs
          go_wp2
          go_meet
          case rel =>
           have hX : Y = d := by rw [HXX.out, if_pos KT.out]
           have hn : xn = mf := by rw [HXN.out, hX]; exact (HFM).out.symm
           rw [hX, hn]
           have hk : But gy W5 (set12 W5 gy ⟨d.h, .slice qa mp qc, .slice ga mf gc⟩) := But.set12 _ _ _
           have h1 : RmS w (set12 W5 gy ⟨d.h, .slice qa mp qc, .slice ga mf gc⟩) ⟨c.h, .slice pa np pc, .slice fa nf fc⟩ ⟨d.h, .slice qa mp qc, .slice ga mf gc⟩ ⟨mixE c d (P.1) (P.2.1) (0) (0), .slice ua un ub, .slice none 0 0⟩ := HS.out.far HGL.out hk
           exact ⟨ga, gc, .slice qa mp qc, hid (show CBox (set12 W5 gy ⟨d.h, .slice qa mp qc, .slice ga mf gc⟩) gy 30 ⟨d.h, .slice qa mp qc, .slice ga mf gc⟩ from CBox.set12 HG.out), hid (HDF.out _ h1.low), hid h1, hid (CoSN.mono (CoSN.but HOHPR.out hk (.inr rfl)) fun _ _ h => .inl h)⟩
        case rest =>
         obtain ⟨xa, xc, yv, HG2, HROWX, HS2, HPR2⟩ := hcut
         clear HG HS HPR HOHPR
         obtain ⟨W6, rfl⟩ : ∃ x, x = wc := ⟨_, rfl⟩
         have HG := HG2
         have HS := HS2
         have HPR := HPR2
         clear HG2 HS2 HPR2
         have z9 : W6.cell? ⟨gy, 9, none⟩ = some (.int .i64 Y.h.fn) := HG.out.c9
         have z10 : W6.cell? ⟨gy, 10, none⟩ = some (.int .i64 Y.h.fl) := HG.out.c10
         have z11 : W6.cell? ⟨gy, 11, none⟩ = some (.slice xa xn xc) := HG.out.c11
         have hne : gy ≠ (w.heap.size + 3) := by have := HGL.out; omega
         have o9 : W6.cell? ⟨(w.heap.size + 3), 9, none⟩ = some (.int .i64 0) := HS.out.o.c9
         have fo9 : W6.frozen? ⟨(w.heap.size + 3), 9, none⟩ = false := HS.out.o.fr 9
         have o10 : W6.cell? ⟨(w.heap.size + 3), 10, none⟩ = some (.int .i64 0) := HS.out.o.c10
         have fo10 : W6.frozen? ⟨(w.heap.size + 3), 10, none⟩ = false := HS.out.o.fr 10
         have o11 : W6.cell? ⟨(w.heap.size + 3), 11, none⟩ = some (.slice none 0 0) := HS.out.o.c11
         have fo11 : W6.frozen? ⟨(w.heap.size + 3), 11, none⟩ = false := HS.out.o.fr 11
         go_upto_region 26 with fail
         obtain ⟨W7, hw⟩ : ∃ x, x = ((((((W6).setCell ⟨(w.heap.size + 3), 9, none⟩ (.int .i64 Y.h.fn))).setCell ⟨(w.heap.size + 3), 10, none⟩ (.int .i64 Y.h.fl))).setCell ⟨(w.heap.size + 3), 11, none⟩ (.slice xa xn xc)) := ⟨_, rfl⟩
         rw [← hw]
         have hk : But (w.heap.size + 3) W6 W7 := by rw [hw]; exact ((((But.refl (w.heap.size + 3) W6).set 9 (.int .i64 Y.h.fn)).set 10 (.int .i64 Y.h.fl)).set 11 (.slice xa xn xc))
         replace HS := hid (show RmS w W7 ⟨c.h, .slice pa np pc, .slice fa nf fc⟩ ⟨d.h, .slice qa mp qc, .slice ga mf gc⟩ ⟨mixE c d (P.1) (P.2.1) (Y.h.fn) (Y.h.fl), .slice ua un ub, .slice xa xn xc⟩ from HS.out.but hk (by rw [hw]; exact (((HS.out.o.s9).s10).s11)))
         replace HROWX := hid (CoSN.but HROWX.out hk (.inr rfl))
         replace HPR := hid (CoSN.but HPR.out hk (.inr rfl))
         clear hk hw
         clear hne z9 o9 fo9 z10 o10 fo10 z11 o11 fo11
         go_upto_region 26 with fail
         go_cut [115] from 108 to 115 (fun cc wx => ∃ zz : Bool, cc = .bool zz ∧ Hid (zz = decide (2 ≤ c.h.fn ∧ 2 ≤ d.h.fn)) ∧ W7 = wx)
         case first =>
          have x9 : W7.cell? ⟨w.heap.size, 9, none⟩ = some (.int .i64 c.h.fn) := HS.out.x.c9
          have y9 : W7.cell? ⟨(w.heap.size + 1), 9, none⟩ = some (.int .i64 d.h.fn) := HS.out.y.c9
          by_cases k0 : 2 ≤ c.h.fn
          case neg =>
           have b0 : (decide (2 ≤ c.h.fn)) = false := by simpa using k0
           have K0 := hid k0
           clear k0
           go_wp2
           go_meet
           case rel => exact ⟨false, rfl, hid (decide_eq_false (p := 2 ≤ c.h.fn ∧ 2 ≤ d.h.fn) (fun h => by have h1 := K0.out; omega)).symm, rfl⟩
          have b0 : (decide (2 ≤ c.h.fn)) = true := by simpa using k0
          have K0 := hid k0
          clear k0
          by_cases k1 : 2 ≤ d.h.fn
          case neg =>
           have b1 : (decide (2 ≤ d.h.fn)) = false := by simpa using k1
           have K1 := hid k1
           clear k1
           go_wp2
           go_meet
           case rel => exact ⟨false, rfl, hid (decide_eq_false (p := 2 ≤ c.h.fn ∧ 2 ≤ d.h.fn) (fun h => by have h1 := K1.out; omega)).symm, rfl⟩
          have b1 : (decide (2 ≤ d.h.fn)) = true := by simpa using k1
          have K1 := hid k1
          clear k1
          go_wp2
          go_meet
          case rel => exact ⟨true, rfl, hid (decide_eq_true (p := 2 ≤ c.h.fn ∧ 2 ≤ d.h.fn) (by have h0 := K0.out; have h1 := K1.out; omega)).symm, rfl⟩
         case rest =>
          obtain ⟨zt, rfl, Hzt, rfl⟩ := hcut
          go_upto_if 115 with fail
          go_cut [] from 115 to 176 (fun wx => ∃ (va : Option Addr) (vb : Nat), Hid (RmS w wx ⟨c.h, .slice pa np pc, .slice fa nf fc⟩ ⟨d.h, .slice qa mp qc, .slice ga mf gc⟩ ⟨mixE c d (P.1) (P.2.1) (F.1) (F.2.1), .slice ua un ub, .slice va vn vb⟩) ∧ Hid (CoS wx (Lc (fun x => (N x ∨ x = w.heap.size + 2) ∨ x = w.heap.size + 3) wx) (.slice ua un ub) P.2.2) ∧ Hid (CoS wx (Lc (fun x => (N x ∨ x = w.heap.size + 2) ∨ x = w.heap.size + 3) wx) (.slice va vn vb) F.2.2))
          case first =>
           cases zt with
           | false =>
            have KT := hid (show ¬ (2 ≤ c.h.fn ∧ 2 ≤ d.h.fn) from of_decide_eq_false Hzt.out.symm)
            clear Hzt
            go_wp2
            go_meet
            case rel =>
             have hF : F = (Y.h.fn, Y.h.fl, Y.funs) := by
              rw [HFE.out, if_neg KT.out, HXX.out]
              by_cases h : c.h.fn ≠ 1 ∧ d.h.fn ≠ 0
              ·
               rw [if_pos h, if_pos h]
              ·
               rw [if_neg h, if_neg h]
             have hn : vn = xn := by rw [HVN.out, hF, HXN.out]
             rw [hF, hn]
             exact ⟨xa, xc, HS, HPR, HROWX⟩
           | true =>
            have KT := hid (show 2 ≤ c.h.fn ∧ 2 ≤ d.h.fn from of_decide_eq_true Hzt.out.symm)
            clear Hzt
            have HYL := hid (show Y.h.fl = 0 by rw [HXX.out, if_pos (show c.h.fn ≠ 1 ∧ d.h.fn ≠ 0 by have := KT.out; omega)]; exact HFL.out KT.out.2)
            have o9 : W7.cell? ⟨(w.heap.size + 3), 9, none⟩ = some (.int .i64 Y.h.fn) := HS.out.o.c9
            have fo9 : W7.frozen? ⟨(w.heap.size + 3), 9, none⟩ = false := HS.out.o.fr 9
            have o11 : W7.cell? ⟨(w.heap.size + 3), 11, none⟩ = some (.slice xa xn xc) := HS.out.o.c11
            have fo11 : W7.frozen? ⟨(w.heap.size + 3), 11, none⟩ = false := HS.out.o.fr 11
            clear HROWX
            go_upto_region 29 with fail
            obtain ⟨V1, hw⟩ : ∃ x, x = ((((W7).setCell ⟨(w.heap.size + 3), 9, none⟩ (.int .i64 3))).setCell ⟨(w.heap.size + 3), 11, none⟩ (.slice none 0 0)) := ⟨_, rfl⟩
            rw [← hw]
            have hk : But (w.heap.size + 3) W7 V1 := by rw [hw]; exact (((But.refl (w.heap.size + 3) W7).set 9 (.int .i64 3)).set 11 (.slice none 0 0))
            replace HS := hid (show RmS w V1 ⟨c.h, .slice pa np pc, .slice fa nf fc⟩ ⟨d.h, .slice qa mp qc, .slice ga mf gc⟩ ⟨mixE c d (P.1) (P.2.1) (3) (Y.h.fl), .slice ua un ub, .slice none 0 0⟩ from HS.out.but hk (by rw [hw]; exact ((HS.out.o.s9).s11)))
            replace HPR := hid (CoSN.but HPR.out hk (.inr rfl))
            clear hk hw
            clear o9 fo9 o11 fo11
            go_upto_region 29 with fail
            go_cut [134] from 118 to 134 (fun cc wx => ∃ zz : Bool, cc = .bool zz ∧ Hid (zz = decide (c.h.fn = 2 ∧ d.h.fn = 2 ∧ (nf : Int) = (mf : Int))) ∧ V1 = wx)
            case first =>
             have x9 : V1.cell? ⟨w.heap.size, 9, none⟩ = some (.int .i64 c.h.fn) := HS.out.x.c9
             have x11 : V1.cell? ⟨w.heap.size, 11, none⟩ = some (.slice fa nf fc) := HS.out.x.c11
             have y9 : V1.cell? ⟨(w.heap.size + 1), 9, none⟩ = some (.int .i64 d.h.fn) := HS.out.y.c9
             have y11 : V1.cell? ⟨(w.heap.size + 1), 11, none⟩ = some (.slice ga mf gc) := HS.out.y.c11
             by_cases k0 : c.h.fn = 2
             case neg =>
              have b0 : (c.h.fn == 2) = false := by simpa using k0
              have K0 := hid k0
              clear k0
              go_wp2
              go_meet
              case rel => exact ⟨false, rfl, hid (decide_eq_false (p := c.h.fn = 2 ∧ d.h.fn = 2 ∧ (nf : Int) = (mf : Int)) (fun h => by have h1 := K0.out; omega)).symm, rfl⟩
             have b0 : (c.h.fn == 2) = true := by simpa using k0
             have K0 := hid k0
             clear k0
             by_cases k1 : d.h.fn = 2
             case neg =>
              have b1 : (d.h.fn == 2) = false := by simpa using k1
              have K1 := hid k1
              clear k1
              go_wp2
              go_meet
              case rel => exact ⟨false, rfl, hid (decide_eq_false (p := c.h.fn = 2 ∧ d.h.fn = 2 ∧ (nf : Int) = (mf : Int)) (fun h => by have h1 := K1.out; omega)).symm, rfl⟩
             have b1 : (d.h.fn == 2) = true := by simpa using k1
             have K1 := hid k1
             clear k1
             by_cases k2 : (nf : Int) = (mf : Int)
             case neg =>
              have b2 : ((nf : Int) == (mf : Int)) = false := by simpa using k2
              have K2 := hid k2
              clear k2
              go_wp2
              go_meet
              case rel => exact ⟨false, rfl, hid (decide_eq_false (p := c.h.fn = 2 ∧ d.h.fn = 2 ∧ (nf : Int) = (mf : Int)) (fun h => by have h1 := K2.out; omega)).symm, rfl⟩
             have b2 : ((nf : Int) == (mf : Int)) = true := by simpa using k2
             have K2 := hid k2
             clear k2
             go_wp2
             go_meet
             case rel => exact ⟨true, rfl, hid (decide_eq_true (p := c.h.fn = 2 ∧ d.h.fn = 2 ∧ (nf : Int) = (mf : Int)) (by have h0 := K0.out; have h1 := K1.out; have h2 := K2.out; omega)).symm, rfl⟩
            case rest =>
             obtain ⟨zs, rfl, Hzs, rfl⟩ := hcut
             cases zs with
             | false =>
              have KS := hid (show ¬ (c.h.fn = 2 ∧ d.h.fn = 2 ∧ (nf : Int) = (mf : Int)) from of_decide_eq_false Hzs.out.symm)
              clear Hzs
              go_wp2
              go_meet
              case rel =>
               have hF : F = (3, 0, []) := by rw [HFE.out, if_pos KT.out, if_neg (fun h => KS.out ⟨h.1, h.2.1, by have := HFN.out; have := HFM.out; have := h.2.2; omega⟩)]
               have hn : vn = 0 := by rw [HVN.out, hF]; rfl
               have hs := HS.out
               rw [HYL.out] at hs
               rw [hF, hn]
               exact ⟨none, 0, hid hs, HPR, hid (.mkNil _ _)⟩
             | true =>
              have KS := hid (show c.h.fn = 2 ∧ d.h.fn = 2 ∧ (nf : Int) = (mf : Int) from of_decide_eq_true Hzs.out.symm)
              clear Hzs
              have o9 : V1.cell? ⟨(w.heap.size + 3), 9, none⟩ = some (.int .i64 3) := HS.out.o.c9
              have fo9 : V1.frozen? ⟨(w.heap.size + 3), 9, none⟩ = false := HS.out.o.fr 9
              have x11 : V1.cell? ⟨w.heap.size, 11, none⟩ = some (.slice fa nf fc) := HS.out.x.c11
              have y11 : V1.cell? ⟨(w.heap.size + 1), 11, none⟩ = some (.slice ga mf gc) := HS.out.y.c11
              have HFUN := hid (show 1 ≤ nf ∧ nf ≤ 9 ∧ nf = mf by have h1 := HOKC.out.shape.own.2.2.2.2 KS.out.1; rw [← HFN.out] at h1; have := KS.out.2.2; omega)
              obtain ⟨k, hk⟩ : ∃ k, nf = k + 1 := ⟨nf - 1, by have := HFUN.out; omega⟩
              have hsub : IntKind.i64.wrap ((nf : Int) - 1) = (k : Int) := by rw [IntKind.wrap_i64]; have := HFUN.out; omega
              have HKK := hid (show nf = k + 1 ∧ mf = k + 1 ∧ k ≤ 8 by have := HFUN.out; omega)
              have HK3 := hid (show c.h.fn = 2 ∧ d.h.fn = 2 ∧ c.funs.length = d.funs.length from ⟨KS.out.1, KS.out.2.1, by rw [← HFN.out, ← HFM.out]; exact HFUN.out.2.2⟩)
              have HRL2 := hid (show (rowF n c d).length = k + 1 by unfold rowF; rw [← HFN.out, HKK.out.1]; simp)
              have k8 : (k : Int) ≤ 8 := by have := HKK.out; omega
              clear hk
              go_upto_region 31 with fail
              obtain ⟨V2, hw⟩ : ∃ x, x = ((V1).setCell ⟨(w.heap.size + 3), 9, none⟩ (.int .i64 2)) := ⟨_, rfl⟩
              rw [← hw]
              have hk : But (w.heap.size + 3) V1 V2 := by rw [hw]; exact ((But.refl (w.heap.size + 3) V1).set 9 (.int .i64 2))
              replace HS := hid (show RmS w V2 ⟨c.h, .slice pa np pc, .slice fa nf fc⟩ ⟨d.h, .slice qa mp qc, .slice ga mf gc⟩ ⟨mixE c d (P.1) (P.2.1) (2) (Y.h.fl), .slice ua un ub, .slice none 0 0⟩ from HS.out.but hk (by rw [hw]; exact (HS.out.o.s9)))
              replace HPR := hid (CoSN.but HPR.out hk (.inr rfl))
              clear hk hw
              clear o9 fo9 x11 y11
              have x11 : V2.cell? ⟨w.heap.size, 11, none⟩ = some (.slice fa nf fc) := HS.out.x.c11
              have y11 : V2.cell? ⟨(w.heap.size + 1), 11, none⟩ = some (.slice ga mf gc) := HS.out.y.c11
              go_wp2
              clear x11 y11 hsub
              have HSB := HS
              have HG3 := hid (show (w.heap.size + 3) < V2.heap.size from HS.out.o.lt)
              have HCFB := hid (HCF.out _ HS.out.low)
              have HDFB := hid (HDF.out _ HS.out.low)
              have HSL := hid (show w.heap.size < V2.heap.size ∧ w.heap.size + 1 < V2.heap.size from ⟨HS.out.x.lt, HS.out.y.lt⟩)
              go_loopw [10] (fun iv wr => ∃ (i : Nat) (ra : Option Addr) (rc : Nat), i ≤ k ∧ iv = .int .i64 i ∧ Hid (RmS w wr ⟨c.h, .slice pa np pc, .slice fa nf fc⟩ ⟨d.h, .slice qa mp qc, .slice ga mf gc⟩ ⟨mixE c d (P.1) (P.2.1) (2) (Y.h.fl), .slice ua un ub, .slice ra i rc⟩) ∧ Hid (RowC 30 (fun x => (N x ∨ x = w.heap.size + 2) ∨ x = w.heap.size + 3) V2.heap.size wr (.slice ra i rc) ((List.range i).map fun j => compF n (d.funs.getD j co0) (c.funs.getD j co0))) ∧ Hid (But (w.heap.size + 3) V2 wr)) (fun iv _ => k - (intOf iv).toNat)
              case atStart => exact ⟨0, none, 0, Nat.zero_le _, rfl, HS, hid RowC.nil, hid (But.refl _ _)⟩
              case round =>
               clear HS
               obtain ⟨i, ra, rc, hi1, rfl, HS, HROW, HKB⟩ := hrel
               have hi0 : (0 : Int) ≤ (i : Int) := Int.natCast_nonneg _
               have HOW := hid HROW.out.lt
               have HG3V := hid (show (w.heap.size + 3) < wr.heap.size from HS.out.o.lt)
               by_cases hlt : i < k
               ·
                have hi2 : (i : Int) < (k : Int) := by omega
                have hi3 : (i : Int) < (nf : Int) := by have := HKK.out; omega
                have hi4 : (i : Int) < (mf : Int) := by have := HKK.out; omega
                have hi8 : i ≤ 8 := by have := HKK.out; omega
                have HLE := hid (show ((List.range i).map fun j => compF n (d.funs.getD j co0) (c.funs.getD j co0)).length = i by simp)
                have HLT := hid hlt
                have hnf := HKK.out
                obtain ⟨zc, hzc⟩ : ∃ x, c.funs.getD i co0 = x := ⟨_, rfl⟩
                obtain ⟨bc, ofc, p1c, c1c, p2c, c2c, hac, hlc, hec, hvc⟩ := CoSN.elem3 HCFB.out (show i < c.funs.length by rw [← HFN.out]; omega) hzc
                have HVc := hid hvc
                have HEc := hid hec
                have HBc := hid (show bc < V2.heap.size ∧ bc ≠ (w.heap.size + 3) from ⟨hlc.1, fun e => hlc.2 (.inr e)⟩)
                have Xc : V2.cell? ⟨w.heap.size, 11, none⟩ = some (.slice (some ⟨bc, ofc, none⟩) nf fc) := by rw [← hac]; exact HSB.out.x.c11
                clear hac hlc hec hvc
                obtain ⟨zd, hzd⟩ : ∃ x, d.funs.getD i co0 = x := ⟨_, rfl⟩
                obtain ⟨bd, ofd, p1d, c1d, p2d, c2d, had, hld, hed, hvd⟩ := CoSN.elem3 HDFB.out (show i < d.funs.length by rw [← HFM.out]; omega) hzd
                have HVd := hid hvd
                have HEd := hid hed
                have HBd := hid (show bd < V2.heap.size ∧ bd ≠ (w.heap.size + 3) from ⟨hld.1, fun e => hld.2 (.inr e)⟩)
                have Xd : V2.cell? ⟨(w.heap.size + 1), 11, none⟩ = some (.slice (some ⟨bd, ofd, none⟩) mf gc) := by rw [← had]; exact HSB.out.y.c11
                clear had hld hed hvd
                clear hnf
                obtain ⟨E, hE⟩ : ∃ x, x = compF n zd zc := ⟨_, rfl⟩
                have HFX := hid (HFA.out i (by have := HLT.out; have := HKK.out; omega) (by have := HLT.out; have := HKK.out; omega))
                rw [hzc, hzd, ← hE] at HFX
                have HSN := hid (show ((List.range (i + 1)).map fun j => compF n (d.funs.getD j co0) (c.funs.getD j co0)) = ((List.range i).map fun j => compF n (d.funs.getD j co0) (c.funs.getD j co0)) ++ [E] by rw [List.range_succ, List.map_append, hE, ← hzc, ← hzd]; rfl)
                clear hzc hzd hE hlt hi1
                go_upto_region 35 with fail
                (try dsimp only [List.append])
                refine wp_region_noPanic ?_
                refine wp_region_held_drew (S := (fun w' => But (w.heap.size + 3) V2 w')) (by kernel_rfl) (by (try dsimp only); exact HKB.out.then ((Below.refl _ _).drew)) (fun hHeld => ?_)
                have HBT := hid (show Below wr.heap.size wr wr.drew from (Below.refl _ _).drew)
                have oc : wr.drew.cell? ⟨(w.heap.size + 3), 11, none⟩ = some (.slice ra i rc) := HS.out.o.c11
                replace HROW := hid (HROW.out.below HBT.out)
                generalize wr.drew = wd at hHeld HBT oc HROW ⊢
                refine' tk_q 0 145 hHeld ?hi1i ?hr1i
                case hi1i => (refine ⟨_, rfl, rfl, rfl, fun wz hSw => ?_⟩; (try dsimp only at hSw); go_simp; (try with_reducible rfl))
                (try simp only [pq1, ls0, ls1])
                refine' tk_q 2 147 hHeld ?hi1j ?hr1j
                case hi1j => (refine ⟨_, rfl, rfl, rfl, fun wz hSw => ?_⟩; (try dsimp only at hSw); go_simp; (try with_reducible rfl))
                (try simp only [pq1, ls0, ls1])
                refine' tk_q 3 148 hHeld ?hi1k ?hr1k
                case hi1k => (refine ⟨_, rfl, rfl, rfl, fun wz hSw => ?_⟩; (try dsimp only at hSw); have s1 := (hSw.cell (p := ⟨(w.heap.size + 1), 11, none⟩) HSL.out.2 (by show w.heap.size + 1 ≠ w.heap.size + 3; omega)).trans Xd; go_simp; (try with_reducible rfl))
                (try simp only [pq1, ls0, ls1])
                refine' tk_q 4 149 hHeld ?hi1l ?hr1l
                case hi1l => (refine ⟨_, rfl, rfl, rfl, fun wz hSw => ?_⟩; (try dsimp only at hSw); go_simp; (try with_reducible rfl))
                (try simp only [pq1, ls0, ls1])
                refine' tk_q 5 150 hHeld ?hi1m ?hr1m
                case hi1m => (refine ⟨_, rfl, rfl, rfl, fun wz hSw => ?_⟩; (try dsimp only at hSw); go_simp; (try with_reducible rfl))
                (try simp only [pq1, ls0, ls1])
                refine' tk_q 6 151 hHeld ?hi1n ?hr1n
                case hi1n => (refine ⟨_, rfl, rfl, rfl, fun wz hSw => ?_⟩; (try dsimp only at hSw); obtain ⟨v0, v1, v2, v3, v4, v5, v6, v7, v8, v9, v10, v11⟩ := (HEd.out.but hSw HBd.out.1 HBd.out.2).cs; (try dsimp only at v0 v1 v2 v3 v4 v5 v6 v7 v8 v9 v10 v11); go_simp; (try with_reducible rfl))
                (try simp only [pq1, ls0, ls1])
                refine' tk_q 7 152 hHeld ?hi1o ?hr1o
                case hi1o => (refine ⟨_, rfl, rfl, rfl, fun wz hSw => ?_⟩; (try dsimp only at hSw); go_simp; (try with_reducible rfl))
                (try simp only [pq1, ls0, ls1])
                refine' tk_q 8 153 hHeld ?hi1p ?hr1p
                case hi1p => (refine ⟨_, rfl, rfl, rfl, fun wz hSw => ?_⟩; (try dsimp only at hSw); have s0 := (hSw.cell (p := ⟨w.heap.size, 11, none⟩) HSL.out.1 (by show w.heap.size ≠ w.heap.size + 3; omega)).trans Xc; go_simp; (try with_reducible rfl))
                (try simp only [pq1, ls0, ls1])
                refine' tk_q 9 154 hHeld ?hi1q ?hr1q
                case hi1q => (refine ⟨_, rfl, rfl, rfl, fun wz hSw => ?_⟩; (try dsimp only at hSw); go_simp; (try with_reducible rfl))
                (try simp only [pq1, ls0, ls1])
                refine' tk_q 10 155 hHeld ?hi1r ?hr1r
                case hi1r => (refine ⟨_, rfl, rfl, rfl, fun wz hSw => ?_⟩; (try dsimp only at hSw); go_simp; (try with_reducible rfl))
                (try simp only [pq1, ls0, ls1])
                refine' tk_q 11 156 hHeld ?hi1s ?hr1s
                case hi1s => (refine ⟨_, rfl, rfl, rfl, fun wz hSw => ?_⟩; (try dsimp only at hSw); obtain ⟨t0, t1, t2, t3, t4, t5, t6, t7, t8, t9, t10, t11⟩ := (HEc.out.but hSw HBc.out.1 HBc.out.2).cs; (try dsimp only at t0 t1 t2 t3 t4 t5 t6 t7 t8 t9 t10 t11); go_simp; (try with_reducible rfl))
                (try simp only [pq1, ls0, ls1])
                refine' tk_two 1 12 ?hi1t ?hj1t (by kernel_rfl) ?ha1t ?hb1t
                case hi1t => rfl
                case hj1t => rfl
                case ha1t =>
                 intro K hK
                 go_simp
                 clear hHeld
                 refine hK.out _ _ (by (try dsimp only); exact HKB.out.then HBT.out) (fun hHeld => ?_)
                 clear hK K
                 (try simp only [pq1, ls0, ls1])
                 refine' tk_call 12 ?hi1u (by kernel_rfl) ?hr1u
                 case hi1u => rfl
                 intro K hK
                 go_simp
                 go_at_call 36
                 refine (HFX.out wd _ _ (fun x => (fun x => (N x ∨ x = w.heap.size + 2) ∨ x = w.heap.size + 3) x ∨ (Value.slice ra i rc).ownBlock = some x) (fun x hx => hx.elim ((HMB.out wd (Nat.le_trans HSB.out.o.lt (HKB.out.then HBT.out).size)) x) fun h => Nat.lt_of_lt_of_le (HOW.out x h).2 HBT.out.size) (CoVN.but (CoVN.later (M := (fun x => (fun x => (N x ∨ x = w.heap.size + 2) ∨ x = w.heap.size + 3) x ∨ (Value.slice ra i rc).ownBlock = some x)) HVd.out (Below.refl _ _) (fun b h => h.elim (fun h => .inl h) fun h => .inr (HOW.out b h).1)) (HKB.out.then HBT.out) (.inl (.inr rfl))) (CoVN.but (CoVN.later (M := (fun x => (fun x => (N x ∨ x = w.heap.size + 2) ∨ x = w.heap.size + 3) x ∨ (Value.slice ra i rc).ownBlock = some x)) HVc.out (Below.refl _ _) (fun b h => h.elim (fun h => .inl h) fun h => .inr (HOW.out b h).1)) (HKB.out.then HBT.out) (.inl (.inr rfl)))).mono ?_
                 rintro e w4 ⟨⟨u, rfl, hu⟩, hb⟩
                 obtain ⟨q41, q42, q43, q44, rfl, _, _⟩ := hu.form
                 have HU4 := hid hu
                 replace oc := (hb.cell (p := ⟨_, 11, none⟩) (Nat.lt_of_lt_of_le HG3V.out HBT.out.size)).trans oc
                 replace HROW := hid (HROW.out.below hb)
                 replace HBT := hid (HBT.out.trans (hb.mono HBT.out.size))
                 clear hu hb
                 go_wp2_with fail
                 clear hHeld
                 refine hK.out _ _ (by (try dsimp only); exact HKB.out.then HBT.out) (fun hHeld => ?_)
                 clear hK K
                 (try simp only [pq1, ls0, ls1])
                 refine' tk_call 13 ?hi1v (by kernel_rfl) ?hr1v
                 case hi1v => rfl
                 intro K hK
                 go_simp
                 obtain ⟨wA, hwA⟩ : ∃ wA : World, wA = w4.alloc (.cells #[.int .i64 E.h.f0, .int .i64 E.h.f1, .int .i64 E.h.f2, .int .i64 E.h.f3, .int .i64 E.h.f4, .int .i64 E.h.f5, .int .i64 E.h.pair, .int .i64 E.h.pl, .slice q41 E.pairs.length q42, .int .i64 E.h.fn, .int .i64 E.h.fl, .slice q43 E.funs.length q44] 30) := ⟨_, rfl⟩
                 rw [← hwA]
                 have hb : Below w4.heap.size w4 wA := by rw [hwA]; exact bAl _ _
                 have HNB := hid (show wA.heap[w4.heap.size]? = some (.cells #[.int .i64 E.h.f0, .int .i64 E.h.f1, .int .i64 E.h.f2, .int .i64 E.h.f3, .int .i64 E.h.f4, .int .i64 E.h.f5, .int .i64 E.h.pair, .int .i64 E.h.pl, .slice q41 E.pairs.length q42, .int .i64 E.h.fn, .int .i64 E.h.fl, .slice q43 E.funs.length q44] 30 (0, 0)) by rw [hwA]; exact heap_alloc_new _ _)
                 obtain ⟨rs, hown, hraw⟩ := HROW.out
                 rw [HLE.out] at hown
                 have HOA := hid (show wA.ownsRow V2.heap.size 30 12 (.slice ra i rc) i (cosCells rs) by rw [hwA]; exact hown.alloc _)
                 have HRAW := hid hraw
                 have HWA := hid hwA
                 replace oc := (hb.cell (p := ⟨_, 11, none⟩) (Nat.lt_of_lt_of_le HG3V.out HBT.out.size)).trans oc
                 replace HBT := hid (HBT.out.trans (hb.mono HBT.out.size))
                 have HW1 := hid (show V2.heap.size ≤ wA.heap.size from (HKB.out.then HBT.out).size)
                 clear hb hwA hown hraw
                 clear hHeld
                 refine hK.out _ _ (by (try dsimp only); exact HKB.out.then HBT.out) (fun hHeld => ?_)
                 clear hK K
                 (try simp only [pq1, ls0, ls1])
                 refine' tk_call 14 ?hi1w (by kernel_rfl) ?hr1w
                 case hi1w => rfl
                 intro K hK
                 refine step_append_lies _ (by rfl) _ _ _ (by rfl) V2.heap.size 30 i0 _ 12 128 Tryd.underlying28 hi hz0 hz1 hz2 rfl (by omega) (.slice ra i rc) i (cosCells rs) (by rfl) HOA.out ⟨w4.heap.size, 0, none⟩ 1 1 [.int .i64 E.h.f0, .int .i64 E.h.f1, .int .i64 E.h.f2, .int .i64 E.h.f3, .int .i64 E.h.f4, .int .i64 E.h.f5, .int .i64 E.h.pair, .int .i64 E.h.pl, .slice q41 E.pairs.length q42, .int .i64 E.h.fn, .int .i64 E.h.fl, .slice q43 E.funs.length q44] (by rfl) (by rfl) (World.news_of_block (cs := #[.int .i64 E.h.f0, .int .i64 E.h.f1, .int .i64 E.h.f2, .int .i64 E.h.f3, .int .i64 E.h.f4, .int .i64 E.h.f5, .int .i64 E.h.pair, .int .i64 E.h.pl, .slice q41 E.pairs.length q42, .int .i64 E.h.fn, .int .i64 E.h.fl, .slice q43 E.funs.length q44]) (t := 30) (fr := (0, 0)) HNB.out) (by simp [Value.oneCell']) (by omega) (by unfold maxLen; omega) (by omega) HW1.out wA.heap.size rfl ?_
                 intro gg cap w9 hown9 hgrow9 hat9 hlt9
                 have hb9 : But (w.heap.size + 3) V2 w9 := (HKB.out.then HBT.out).grown hgrow9 (fun x hx => (HOW.out x hx).1)
                 have hbx9 : CBox w9 (w.heap.size + 3) 30 ⟨mixE c d (P.1) (P.2.1) (2) (Y.h.fl), .slice ua un ub, .slice ra i rc⟩ := (hgrow9.block _ (Nat.lt_of_lt_of_le HG3V.out HBT.out.size) (fun e => by have h1 := (HOW.out _ e.symm).1; have h2 := HG3.out; omega)).trans (HS.out.o.keep HBT.out)
                 have hs9 : RmS w w9 ⟨c.h, .slice pa np pc, .slice fa nf fc⟩ ⟨d.h, .slice qa mp qc, .slice ga mf gc⟩ ⟨mixE c d (P.1) (P.2.1) (2) (Y.h.fl), .slice ua un ub, .slice ra i rc⟩ := HSB.out.but hb9 hbx9
                 have hrow9 : RowC 30 (fun x => (N x ∨ x = w.heap.size + 2) ∨ x = w.heap.size + 3) V2.heap.size w9 (.slice (some ⟨gg, 0, none⟩) (i + 1) cap) (((List.range i).map fun j => compF n (d.funs.getD j co0) (c.funs.getD j co0)) ++ [E]) := by
                  have h2 : RawCo w4 (fun b => Lc (fun x => (N x ∨ x = w.heap.size + 2) ∨ x = w.heap.size + 3) w4 b ∧ (Value.slice ra i rc).ownBlock ≠ some b) ⟨E.h, .slice q41 E.pairs.length q42, .slice q43 E.funs.length q44⟩ E := HU4.out.raw.mono (fun b h => ⟨⟨h.1, fun e => h.2 (.inl e)⟩, fun e => h.2 (.inr e)⟩) fun _ _ _ => rfl
                  have h1 := HRAW.out
                  have hg9 := hgrow9
                  rw [HWA.out] at hg9
                  have hl9 : (Value.slice ra i rc).ownBlock = some gg ∨ gg = w4.heap.size + 1 := hat9.imp id fun h => by rw [h, HWA.out]; simp
                  have hlen := HLE.out
                  have h3 := rowc_push (l := ((List.range i).map fun j => compF n (d.funs.getD j co0) (c.funs.getD j co0))) (cap := cap) h1 h2 hg9 hl9 (by rw [hlen]; exact hown9)
                  rw [hlen] at h3
                  exact h3
                 have hc9 : w9.cell? ⟨(w.heap.size + 3), 11, none⟩ = some (.slice ra i rc) := hbx9.c11
                 have hf9 : w9.frozen? ⟨(w.heap.size + 3), 11, none⟩ = false := hbx9.fr 11
                 have HB9 := hid hb9
                 have HS9 := hid hs9
                 have HROW9 := hid hrow9
                 clear hb9 hbx9 hs9 hrow9 hown9 hgrow9 hat9 hlt9
                 clear hHeld
                 refine hK.out _ _ (by (try dsimp only); exact HB9.out) (fun hHeld => ?_)
                 clear hK K
                 (try simp only [pq1, ls0, ls1])
                 refine' tk_q 15 160 hHeld ?hi1x ?hr1x
                 case hi1x => (refine ⟨_, rfl, rfl, rfl, fun w hSw => ?_⟩; (try dsimp only at hSw); go_simp; (try with_reducible rfl))
                 (try simp only [pq1, ls0, ls1])
                 refine' tk_call 16 ?hi1y (by kernel_rfl) ?hr1y
                 case hi1y => rfl
                 intro K hK
                 go_simp
                 clear hHeld
                 refine hK.out _ _ (by (try dsimp only); exact HB9.out.set _ _) (fun hHeld => ?_)
                 clear hK K
                 (try simp only [pq1, ls0, ls1])
                 refine wpAnyH_done (by kernel_rfl) ?_ _
                 refine NoPanic.normal ?_
                 rw [← HSN.out] at HROW9
                 go_wp2
                 refine ⟨⟨i + 1, some ⟨gg, 0, none⟩, cap, HLT.out, by go_num, hid (HS9.out.but ((But.refl _ _).set 11 _) HS9.out.o.s11), hid (HROW9.out.store (.inr rfl) HG3.out), hid (HB9.out.set _ _)⟩, by have := HLT.out; simp [intOf]; omega⟩
                case hb1t =>
                 intro K hK
                 go_simp
                 go_at_call 36
                 refine (HFX.out wd _ _ (fun x => (fun x => (N x ∨ x = w.heap.size + 2) ∨ x = w.heap.size + 3) x ∨ (Value.slice ra i rc).ownBlock = some x) (fun x hx => hx.elim ((HMB.out wd (Nat.le_trans HSB.out.o.lt (HKB.out.then HBT.out).size)) x) fun h => Nat.lt_of_lt_of_le (HOW.out x h).2 HBT.out.size) (CoVN.but (CoVN.later (M := (fun x => (fun x => (N x ∨ x = w.heap.size + 2) ∨ x = w.heap.size + 3) x ∨ (Value.slice ra i rc).ownBlock = some x)) HVd.out (Below.refl _ _) (fun b h => h.elim (fun h => .inl h) fun h => .inr (HOW.out b h).1)) (HKB.out.then HBT.out) (.inl (.inr rfl))) (CoVN.but (CoVN.later (M := (fun x => (fun x => (N x ∨ x = w.heap.size + 2) ∨ x = w.heap.size + 3) x ∨ (Value.slice ra i rc).ownBlock = some x)) HVc.out (Below.refl _ _) (fun b h => h.elim (fun h => .inl h) fun h => .inr (HOW.out b h).1)) (HKB.out.then HBT.out) (.inl (.inr rfl)))).mono ?_
                 rintro e w4 ⟨⟨u, rfl, hu⟩, hb⟩
                 obtain ⟨q41, q42, q43, q44, rfl, _, _⟩ := hu.form
                 have HU4 := hid hu
                 replace oc := (hb.cell (p := ⟨_, 11, none⟩) (Nat.lt_of_lt_of_le HG3V.out HBT.out.size)).trans oc
                 replace HROW := hid (HROW.out.below hb)
                 replace HBT := hid (HBT.out.trans (hb.mono HBT.out.size))
                 clear hu hb
                 go_wp2_with fail
                 clear hHeld
                 refine hK.out _ _ (by (try dsimp only); exact HKB.out.then HBT.out) (fun hHeld => ?_)
                 clear hK K
                 (try simp only [pq1, ls0, ls1])
                 refine' tk_two 1 13 ?hi1z ?hj1z (by kernel_rfl) ?ha1z ?hb1z
                 case hi1z => rfl
                 case hj1z => rfl
                 case ha1z =>
                  intro K hK
                  go_simp
                  clear hHeld
                  refine hK.out _ _ (by (try dsimp only); exact HKB.out.then HBT.out) (fun hHeld => ?_)
                  clear hK K
                  (try simp only [pq1, ls0, ls1])
                  refine' tk_call 13 ?hi20 (by kernel_rfl) ?hr20
                  case hi20 => rfl
                  intro K hK
                  go_simp
                  obtain ⟨wA, hwA⟩ : ∃ wA : World, wA = w4.alloc (.cells #[.int .i64 E.h.f0, .int .i64 E.h.f1, .int .i64 E.h.f2, .int .i64 E.h.f3, .int .i64 E.h.f4, .int .i64 E.h.f5, .int .i64 E.h.pair, .int .i64 E.h.pl, .slice q41 E.pairs.length q42, .int .i64 E.h.fn, .int .i64 E.h.fl, .slice q43 E.funs.length q44] 30) := ⟨_, rfl⟩
                  rw [← hwA]
                  have hb : Below w4.heap.size w4 wA := by rw [hwA]; exact bAl _ _
                  have HNB := hid (show wA.heap[w4.heap.size]? = some (.cells #[.int .i64 E.h.f0, .int .i64 E.h.f1, .int .i64 E.h.f2, .int .i64 E.h.f3, .int .i64 E.h.f4, .int .i64 E.h.f5, .int .i64 E.h.pair, .int .i64 E.h.pl, .slice q41 E.pairs.length q42, .int .i64 E.h.fn, .int .i64 E.h.fl, .slice q43 E.funs.length q44] 30 (0, 0)) by rw [hwA]; exact heap_alloc_new _ _)
                  obtain ⟨rs, hown, hraw⟩ := HROW.out
                  rw [HLE.out] at hown
                  have HOA := hid (show wA.ownsRow V2.heap.size 30 12 (.slice ra i rc) i (cosCells rs) by rw [hwA]; exact hown.alloc _)
                  have HRAW := hid hraw
                  have HWA := hid hwA
                  replace oc := (hb.cell (p := ⟨_, 11, none⟩) (Nat.lt_of_lt_of_le HG3V.out HBT.out.size)).trans oc
                  replace HBT := hid (HBT.out.trans (hb.mono HBT.out.size))
                  have HW1 := hid (show V2.heap.size ≤ wA.heap.size from (HKB.out.then HBT.out).size)
                  clear hb hwA hown hraw
                  clear hHeld
                  refine hK.out _ _ (by (try dsimp only); exact HKB.out.then HBT.out) (fun hHeld => ?_)
                  clear hK K
                  (try simp only [pq1, ls0, ls1])
                  refine' tk_call 14 ?hi21 (by kernel_rfl) ?hr21
                  case hi21 => rfl
                  intro K hK
                  refine step_append_lies _ (by rfl) _ _ _ (by rfl) V2.heap.size 30 i0 _ 12 128 Tryd.underlying28 hi hz0 hz1 hz2 rfl (by omega) (.slice ra i rc) i (cosCells rs) (by rfl) HOA.out ⟨w4.heap.size, 0, none⟩ 1 1 [.int .i64 E.h.f0, .int .i64 E.h.f1, .int .i64 E.h.f2, .int .i64 E.h.f3, .int .i64 E.h.f4, .int .i64 E.h.f5, .int .i64 E.h.pair, .int .i64 E.h.pl, .slice q41 E.pairs.length q42, .int .i64 E.h.fn, .int .i64 E.h.fl, .slice q43 E.funs.length q44] (by rfl) (by rfl) (World.news_of_block (cs := #[.int .i64 E.h.f0, .int .i64 E.h.f1, .int .i64 E.h.f2, .int .i64 E.h.f3, .int .i64 E.h.f4, .int .i64 E.h.f5, .int .i64 E.h.pair, .int .i64 E.h.pl, .slice q41 E.pairs.length q42, .int .i64 E.h.fn, .int .i64 E.h.fl, .slice q43 E.funs.length q44]) (t := 30) (fr := (0, 0)) HNB.out) (by simp [Value.oneCell']) (by omega) (by unfold maxLen; omega) (by omega) HW1.out wA.heap.size rfl ?_
                  intro gg cap w9 hown9 hgrow9 hat9 hlt9
                  have hb9 : But (w.heap.size + 3) V2 w9 := (HKB.out.then HBT.out).grown hgrow9 (fun x hx => (HOW.out x hx).1)
                  have hbx9 : CBox w9 (w.heap.size + 3) 30 ⟨mixE c d (P.1) (P.2.1) (2) (Y.h.fl), .slice ua un ub, .slice ra i rc⟩ := (hgrow9.block _ (Nat.lt_of_lt_of_le HG3V.out HBT.out.size) (fun e => by have h1 := (HOW.out _ e.symm).1; have h2 := HG3.out; omega)).trans (HS.out.o.keep HBT.out)
                  have hs9 : RmS w w9 ⟨c.h, .slice pa np pc, .slice fa nf fc⟩ ⟨d.h, .slice qa mp qc, .slice ga mf gc⟩ ⟨mixE c d (P.1) (P.2.1) (2) (Y.h.fl), .slice ua un ub, .slice ra i rc⟩ := HSB.out.but hb9 hbx9
                  have hrow9 : RowC 30 (fun x => (N x ∨ x = w.heap.size + 2) ∨ x = w.heap.size + 3) V2.heap.size w9 (.slice (some ⟨gg, 0, none⟩) (i + 1) cap) (((List.range i).map fun j => compF n (d.funs.getD j co0) (c.funs.getD j co0)) ++ [E]) := by
                   have h2 : RawCo w4 (fun b => Lc (fun x => (N x ∨ x = w.heap.size + 2) ∨ x = w.heap.size + 3) w4 b ∧ (Value.slice ra i rc).ownBlock ≠ some b) ⟨E.h, .slice q41 E.pairs.length q42, .slice q43 E.funs.length q44⟩ E := HU4.out.raw.mono (fun b h => ⟨⟨h.1, fun e => h.2 (.inl e)⟩, fun e => h.2 (.inr e)⟩) fun _ _ _ => rfl
                   have h1 := HRAW.out
                   have hg9 := hgrow9
                   rw [HWA.out] at hg9
                   have hl9 : (Value.slice ra i rc).ownBlock = some gg ∨ gg = w4.heap.size + 1 := hat9.imp id fun h => by rw [h, HWA.out]; simp
                   have hlen := HLE.out
                   have h3 := rowc_push (l := ((List.range i).map fun j => compF n (d.funs.getD j co0) (c.funs.getD j co0))) (cap := cap) h1 h2 hg9 hl9 (by rw [hlen]; exact hown9)
                   rw [hlen] at h3
                   exact h3
                  have hc9 : w9.cell? ⟨(w.heap.size + 3), 11, none⟩ = some (.slice ra i rc) := hbx9.c11
                  have hf9 : w9.frozen? ⟨(w.heap.size + 3), 11, none⟩ = false := hbx9.fr 11
                  have HB9 := hid hb9
                  have HS9 := hid hs9
                  have HROW9 := hid hrow9
                  clear hb9 hbx9 hs9 hrow9 hown9 hgrow9 hat9 hlt9
                  clear hHeld
                  refine hK.out _ _ (by (try dsimp only); exact HB9.out) (fun hHeld => ?_)
                  clear hK K
                  (try simp only [pq1, ls0, ls1])
                  refine' tk_q 15 160 hHeld ?hi22 ?hr22
                  case hi22 => (refine ⟨_, rfl, rfl, rfl, fun w hSw => ?_⟩; (try dsimp only at hSw); go_simp; (try with_reducible rfl))
                  (try simp only [pq1, ls0, ls1])
                  refine' tk_call 16 ?hi23 (by kernel_rfl) ?hr23
                  case hi23 => rfl
                  intro K hK
                  go_simp
                  clear hHeld
                  refine hK.out _ _ (by (try dsimp only); exact HB9.out.set _ _) (fun hHeld => ?_)
                  clear hK K
                  (try simp only [pq1, ls0, ls1])
                  refine wpAnyH_done (by kernel_rfl) ?_ _
                  refine NoPanic.normal ?_
                  rw [← HSN.out] at HROW9
                  go_wp2
                  refine ⟨⟨i + 1, some ⟨gg, 0, none⟩, cap, HLT.out, by go_num, hid (HS9.out.but ((But.refl _ _).set 11 _) HS9.out.o.s11), hid (HROW9.out.store (.inr rfl) HG3.out), hid (HB9.out.set _ _)⟩, by have := HLT.out; simp [intOf]; omega⟩
                 case hb1z =>
                  intro K hK
                  go_simp
                  obtain ⟨wA, hwA⟩ : ∃ wA : World, wA = w4.alloc (.cells #[.int .i64 E.h.f0, .int .i64 E.h.f1, .int .i64 E.h.f2, .int .i64 E.h.f3, .int .i64 E.h.f4, .int .i64 E.h.f5, .int .i64 E.h.pair, .int .i64 E.h.pl, .slice q41 E.pairs.length q42, .int .i64 E.h.fn, .int .i64 E.h.fl, .slice q43 E.funs.length q44] 30) := ⟨_, rfl⟩
                  rw [← hwA]
                  have hb : Below w4.heap.size w4 wA := by rw [hwA]; exact bAl _ _
                  have HNB := hid (show wA.heap[w4.heap.size]? = some (.cells #[.int .i64 E.h.f0, .int .i64 E.h.f1, .int .i64 E.h.f2, .int .i64 E.h.f3, .int .i64 E.h.f4, .int .i64 E.h.f5, .int .i64 E.h.pair, .int .i64 E.h.pl, .slice q41 E.pairs.length q42, .int .i64 E.h.fn, .int .i64 E.h.fl, .slice q43 E.funs.length q44] 30 (0, 0)) by rw [hwA]; exact heap_alloc_new _ _)
                  obtain ⟨rs, hown, hraw⟩ := HROW.out
                  rw [HLE.out] at hown
                  have HOA := hid (show wA.ownsRow V2.heap.size 30 12 (.slice ra i rc) i (cosCells rs) by rw [hwA]; exact hown.alloc _)
                  have HRAW := hid hraw
                  have HWA := hid hwA
                  replace oc := (hb.cell (p := ⟨_, 11, none⟩) (Nat.lt_of_lt_of_le HG3V.out HBT.out.size)).trans oc
                  replace HBT := hid (HBT.out.trans (hb.mono HBT.out.size))
                  have HW1 := hid (show V2.heap.size ≤ wA.heap.size from (HKB.out.then HBT.out).size)
                  clear hb hwA hown hraw
                  clear hHeld
                  refine hK.out _ _ (by (try dsimp only); exact HKB.out.then HBT.out) (fun hHeld => ?_)
                  clear hK K
                  (try simp only [pq1, ls0, ls1])
                  refine' tk_call 1 ?hi24 (by kernel_rfl) ?hr24
                  case hi24 => rfl
                  intro K hK
                  go_simp
                  clear hHeld
                  refine hK.out _ _ (by (try dsimp only); exact HKB.out.then HBT.out) (fun hHeld => ?_)
                  clear hK K
                  (try simp only [pq1, ls0, ls1])
                  refine' tk_call 14 ?hi25 (by kernel_rfl) ?hr25
                  case hi25 => rfl
                  intro K hK
                  refine step_append_lies _ (by rfl) _ _ _ (by rfl) V2.heap.size 30 i0 _ 12 128 Tryd.underlying28 hi hz0 hz1 hz2 rfl (by omega) (.slice ra i rc) i (cosCells rs) (by rfl) HOA.out ⟨w4.heap.size, 0, none⟩ 1 1 [.int .i64 E.h.f0, .int .i64 E.h.f1, .int .i64 E.h.f2, .int .i64 E.h.f3, .int .i64 E.h.f4, .int .i64 E.h.f5, .int .i64 E.h.pair, .int .i64 E.h.pl, .slice q41 E.pairs.length q42, .int .i64 E.h.fn, .int .i64 E.h.fl, .slice q43 E.funs.length q44] (by rfl) (by rfl) (World.news_of_block (cs := #[.int .i64 E.h.f0, .int .i64 E.h.f1, .int .i64 E.h.f2, .int .i64 E.h.f3, .int .i64 E.h.f4, .int .i64 E.h.f5, .int .i64 E.h.pair, .int .i64 E.h.pl, .slice q41 E.pairs.length q42, .int .i64 E.h.fn, .int .i64 E.h.fl, .slice q43 E.funs.length q44]) (t := 30) (fr := (0, 0)) HNB.out) (by simp [Value.oneCell']) (by omega) (by unfold maxLen; omega) (by omega) HW1.out wA.heap.size rfl ?_
                  intro gg cap w9 hown9 hgrow9 hat9 hlt9
                  have hb9 : But (w.heap.size + 3) V2 w9 := (HKB.out.then HBT.out).grown hgrow9 (fun x hx => (HOW.out x hx).1)
                  have hbx9 : CBox w9 (w.heap.size + 3) 30 ⟨mixE c d (P.1) (P.2.1) (2) (Y.h.fl), .slice ua un ub, .slice ra i rc⟩ := (hgrow9.block _ (Nat.lt_of_lt_of_le HG3V.out HBT.out.size) (fun e => by have h1 := (HOW.out _ e.symm).1; have h2 := HG3.out; omega)).trans (HS.out.o.keep HBT.out)
                  have hs9 : RmS w w9 ⟨c.h, .slice pa np pc, .slice fa nf fc⟩ ⟨d.h, .slice qa mp qc, .slice ga mf gc⟩ ⟨mixE c d (P.1) (P.2.1) (2) (Y.h.fl), .slice ua un ub, .slice ra i rc⟩ := HSB.out.but hb9 hbx9
                  have hrow9 : RowC 30 (fun x => (N x ∨ x = w.heap.size + 2) ∨ x = w.heap.size + 3) V2.heap.size w9 (.slice (some ⟨gg, 0, none⟩) (i + 1) cap) (((List.range i).map fun j => compF n (d.funs.getD j co0) (c.funs.getD j co0)) ++ [E]) := by
                   have h2 : RawCo w4 (fun b => Lc (fun x => (N x ∨ x = w.heap.size + 2) ∨ x = w.heap.size + 3) w4 b ∧ (Value.slice ra i rc).ownBlock ≠ some b) ⟨E.h, .slice q41 E.pairs.length q42, .slice q43 E.funs.length q44⟩ E := HU4.out.raw.mono (fun b h => ⟨⟨h.1, fun e => h.2 (.inl e)⟩, fun e => h.2 (.inr e)⟩) fun _ _ _ => rfl
                   have h1 := HRAW.out
                   have hg9 := hgrow9
                   rw [HWA.out] at hg9
                   have hl9 : (Value.slice ra i rc).ownBlock = some gg ∨ gg = w4.heap.size + 1 := hat9.imp id fun h => by rw [h, HWA.out]; simp
                   have hlen := HLE.out
                   have h3 := rowc_push (l := ((List.range i).map fun j => compF n (d.funs.getD j co0) (c.funs.getD j co0))) (cap := cap) h1 h2 hg9 hl9 (by rw [hlen]; exact hown9)
                   rw [hlen] at h3
                   exact h3
                  have hc9 : w9.cell? ⟨(w.heap.size + 3), 11, none⟩ = some (.slice ra i rc) := hbx9.c11
                  have hf9 : w9.frozen? ⟨(w.heap.size + 3), 11, none⟩ = false := hbx9.fr 11
                  have HB9 := hid hb9
                  have HS9 := hid hs9
                  have HROW9 := hid hrow9
                  clear hb9 hbx9 hs9 hrow9 hown9 hgrow9 hat9 hlt9
                  clear hHeld
                  refine hK.out _ _ (by (try dsimp only); exact HB9.out) (fun hHeld => ?_)
                  clear hK K
                  (try simp only [pq1, ls0, ls1])
                  refine' tk_q 15 160 hHeld ?hi26 ?hr26
                  case hi26 => (refine ⟨_, rfl, rfl, rfl, fun w hSw => ?_⟩; (try dsimp only at hSw); go_simp; (try with_reducible rfl))
                  (try simp only [pq1, ls0, ls1])
                  refine' tk_call 16 ?hi27 (by kernel_rfl) ?hr27
                  case hi27 => rfl
                  intro K hK
                  go_simp
                  clear hHeld
                  refine hK.out _ _ (by (try dsimp only); exact HB9.out.set _ _) (fun hHeld => ?_)
                  clear hK K
                  (try simp only [pq1, ls0, ls1])
                  refine wpAnyH_done (by kernel_rfl) ?_ _
                  refine NoPanic.normal ?_
                  rw [← HSN.out] at HROW9
                  go_wp2
                  refine ⟨⟨i + 1, some ⟨gg, 0, none⟩, cap, HLT.out, by go_num, hid (HS9.out.but ((But.refl _ _).set 11 _) HS9.out.o.s11), hid (HROW9.out.store (.inr rfl) HG3.out), hid (HB9.out.set _ _)⟩, by have := HLT.out; simp [intOf]; omega⟩
               ·
                have hin : i = k := by omega
                rw [hin] at HS HROW HOW
                clear hin
                have hk0 : (0 : Int) ≤ (k : Int) := Int.natCast_nonneg _
                have hi3 : (k : Int) < (nf : Int) := by have := HKK.out; omega
                have hi4 : (k : Int) < (mf : Int) := by have := HKK.out; omega
                have hi8 : k ≤ 8 := by have := HKK.out; omega
                have HLE := hid (show ((List.range k).map fun j => compF n (d.funs.getD j co0) (c.funs.getD j co0)).length = k by simp)
                have hnf := HKK.out
                obtain ⟨zc, hzc⟩ : ∃ x, c.funs.getD k co0 = x := ⟨_, rfl⟩
                obtain ⟨bc, ofc, p1c, c1c, p2c, c2c, hac, hlc, hec, hvc⟩ := CoSN.elem3 HCFB.out (show k < c.funs.length by rw [← HFN.out]; omega) hzc
                have HVc := hid hvc
                have HEc := hid hec
                have HBc := hid (show bc < V2.heap.size ∧ bc ≠ (w.heap.size + 3) from ⟨hlc.1, fun e => hlc.2 (.inr e)⟩)
                have Xc : V2.cell? ⟨w.heap.size, 11, none⟩ = some (.slice (some ⟨bc, ofc, none⟩) nf fc) := by rw [← hac]; exact HSB.out.x.c11
                clear hac hlc hec hvc
                obtain ⟨zd, hzd⟩ : ∃ x, d.funs.getD k co0 = x := ⟨_, rfl⟩
                obtain ⟨bd, ofd, p1d, c1d, p2d, c2d, had, hld, hed, hvd⟩ := CoSN.elem3 HDFB.out (show k < d.funs.length by rw [← HFM.out]; omega) hzd
                have HVd := hid hvd
                have HEd := hid hed
                have HBd := hid (show bd < V2.heap.size ∧ bd ≠ (w.heap.size + 3) from ⟨hld.1, fun e => hld.2 (.inr e)⟩)
                have Xd : V2.cell? ⟨(w.heap.size + 1), 11, none⟩ = some (.slice (some ⟨bd, ofd, none⟩) mf gc) := by rw [← had]; exact HSB.out.y.c11
                clear had hld hed hvd
                clear hnf
                obtain ⟨E, hE⟩ : ∃ x, x = compF n zc zd := ⟨_, rfl⟩
                have HFX := hid (HFB.out k (by have := HKK.out; omega) (by have := HKK.out; omega))
                rw [hzc, hzd, ← hE] at HFX
                have HSN := hid (show rowF n c d = ((List.range k).map fun j => compF n (d.funs.getD j co0) (c.funs.getD j co0)) ++ [E] by unfold rowF; rw [← HFN.out, HKK.out.1, Nat.add_sub_cancel, hE, ← hzc, ← hzd])
                clear hzc hzd hE
                go_upto_region 36 with fail
                (try dsimp only [List.append])
                refine wp_region_noPanic ?_
                refine wp_region_held_drew (S := (fun w' => But (w.heap.size + 3) V2 w')) (by kernel_rfl) (by (try dsimp only); exact HKB.out.then ((Below.refl _ _).drew)) (fun hHeld => ?_)
                have HBT := hid (show Below wr.heap.size wr wr.drew from (Below.refl _ _).drew)
                have oc : wr.drew.cell? ⟨(w.heap.size + 3), 11, none⟩ = some (.slice ra k rc) := HS.out.o.c11
                replace HROW := hid (HROW.out.below HBT.out)
                generalize wr.drew = wd at hHeld HBT oc HROW ⊢
                refine' tk_q 0 161 hHeld ?hi28 ?hr28
                case hi28 => (refine ⟨_, rfl, rfl, rfl, fun wz hSw => ?_⟩; (try dsimp only at hSw); go_simp; (try with_reducible rfl))
                (try simp only [pq1, ls0, ls1])
                refine' tk_q 2 163 hHeld ?hi29 ?hr29
                case hi29 => (refine ⟨_, rfl, rfl, rfl, fun wz hSw => ?_⟩; (try dsimp only at hSw); go_simp; (try with_reducible rfl))
                (try simp only [pq1, ls0, ls1])
                refine' tk_q 3 164 hHeld ?hi2a ?hr2a
                case hi2a => (refine ⟨_, rfl, rfl, rfl, fun wz hSw => ?_⟩; (try dsimp only at hSw); have s0 := (hSw.cell (p := ⟨w.heap.size, 11, none⟩) HSL.out.1 (by show w.heap.size ≠ w.heap.size + 3; omega)).trans Xc; go_simp; (try with_reducible rfl))
                (try simp only [pq1, ls0, ls1])
                refine' tk_q 4 165 hHeld ?hi2b ?hr2b
                case hi2b => (refine ⟨_, rfl, rfl, rfl, fun wz hSw => ?_⟩; (try dsimp only at hSw); go_simp; (try with_reducible rfl))
                (try simp only [pq1, ls0, ls1])
                refine' tk_q 5 166 hHeld ?hi2c ?hr2c
                case hi2c => (refine ⟨_, rfl, rfl, rfl, fun wz hSw => ?_⟩; (try dsimp only at hSw); go_simp; (try with_reducible rfl))
                (try simp only [pq1, ls0, ls1])
                refine' tk_q 6 167 hHeld ?hi2d ?hr2d
                case hi2d => (refine ⟨_, rfl, rfl, rfl, fun wz hSw => ?_⟩; (try dsimp only at hSw); obtain ⟨t0, t1, t2, t3, t4, t5, t6, t7, t8, t9, t10, t11⟩ := (HEc.out.but hSw HBc.out.1 HBc.out.2).cs; (try dsimp only at t0 t1 t2 t3 t4 t5 t6 t7 t8 t9 t10 t11); go_simp; (try with_reducible rfl))
                (try simp only [pq1, ls0, ls1])
                refine' tk_q 7 168 hHeld ?hi2e ?hr2e
                case hi2e => (refine ⟨_, rfl, rfl, rfl, fun wz hSw => ?_⟩; (try dsimp only at hSw); go_simp; (try with_reducible rfl))
                (try simp only [pq1, ls0, ls1])
                refine' tk_q 8 169 hHeld ?hi2f ?hr2f
                case hi2f => (refine ⟨_, rfl, rfl, rfl, fun wz hSw => ?_⟩; (try dsimp only at hSw); have s1 := (hSw.cell (p := ⟨(w.heap.size + 1), 11, none⟩) HSL.out.2 (by show w.heap.size + 1 ≠ w.heap.size + 3; omega)).trans Xd; go_simp; (try with_reducible rfl))
                (try simp only [pq1, ls0, ls1])
                refine' tk_q 9 170 hHeld ?hi2g ?hr2g
                case hi2g => (refine ⟨_, rfl, rfl, rfl, fun wz hSw => ?_⟩; (try dsimp only at hSw); go_simp; (try with_reducible rfl))
                (try simp only [pq1, ls0, ls1])
                refine' tk_q 10 171 hHeld ?hi2h ?hr2h
                case hi2h => (refine ⟨_, rfl, rfl, rfl, fun wz hSw => ?_⟩; (try dsimp only at hSw); go_simp; (try with_reducible rfl))
                (try simp only [pq1, ls0, ls1])
                refine' tk_q 11 172 hHeld ?hi2i ?hr2i
                case hi2i => (refine ⟨_, rfl, rfl, rfl, fun wz hSw => ?_⟩; (try dsimp only at hSw); obtain ⟨v0, v1, v2, v3, v4, v5, v6, v7, v8, v9, v10, v11⟩ := (HEd.out.but hSw HBd.out.1 HBd.out.2).cs; (try dsimp only at v0 v1 v2 v3 v4 v5 v6 v7 v8 v9 v10 v11); go_simp; (try with_reducible rfl))
                (try simp only [pq1, ls0, ls1])
                refine' tk_two 1 12 ?hi2j ?hj2j (by kernel_rfl) ?ha2j ?hb2j
                case hi2j => rfl
                case hj2j => rfl
                case ha2j =>
                 intro K hK
                 go_simp
                 clear hHeld
                 refine hK.out _ _ (by (try dsimp only); exact HKB.out.then HBT.out) (fun hHeld => ?_)
                 clear hK K
                 (try simp only [pq1, ls0, ls1])
                 refine' tk_call 12 ?hi2k (by kernel_rfl) ?hr2k
                 case hi2k => rfl
                 intro K hK
                 go_simp
                 go_at_call 36
                 refine (HFX.out wd _ _ (fun x => (fun x => (N x ∨ x = w.heap.size + 2) ∨ x = w.heap.size + 3) x ∨ (Value.slice ra k rc).ownBlock = some x) (fun x hx => hx.elim ((HMB.out wd (Nat.le_trans HSB.out.o.lt (HKB.out.then HBT.out).size)) x) fun h => Nat.lt_of_lt_of_le (HOW.out x h).2 HBT.out.size) (CoVN.but (CoVN.later (M := (fun x => (fun x => (N x ∨ x = w.heap.size + 2) ∨ x = w.heap.size + 3) x ∨ (Value.slice ra k rc).ownBlock = some x)) HVc.out (Below.refl _ _) (fun b h => h.elim (fun h => .inl h) fun h => .inr (HOW.out b h).1)) (HKB.out.then HBT.out) (.inl (.inr rfl))) (CoVN.but (CoVN.later (M := (fun x => (fun x => (N x ∨ x = w.heap.size + 2) ∨ x = w.heap.size + 3) x ∨ (Value.slice ra k rc).ownBlock = some x)) HVd.out (Below.refl _ _) (fun b h => h.elim (fun h => .inl h) fun h => .inr (HOW.out b h).1)) (HKB.out.then HBT.out) (.inl (.inr rfl)))).mono ?_
                 rintro e w4 ⟨⟨u, rfl, hu⟩, hb⟩
                 obtain ⟨q41, q42, q43, q44, rfl, _, _⟩ := hu.form
                 have HU4 := hid hu
                 replace oc := (hb.cell (p := ⟨_, 11, none⟩) (Nat.lt_of_lt_of_le HG3V.out HBT.out.size)).trans oc
                 replace HROW := hid (HROW.out.below hb)
                 replace HBT := hid (HBT.out.trans (hb.mono HBT.out.size))
                 clear hu hb
                 go_wp2_with fail
                 clear hHeld
                 refine hK.out _ _ (by (try dsimp only); exact HKB.out.then HBT.out) (fun hHeld => ?_)
                 clear hK K
                 (try simp only [pq1, ls0, ls1])
                 refine' tk_call 13 ?hi2l (by kernel_rfl) ?hr2l
                 case hi2l => rfl
                 intro K hK
                 go_simp
                 obtain ⟨wA, hwA⟩ : ∃ wA : World, wA = w4.alloc (.cells #[.int .i64 E.h.f0, .int .i64 E.h.f1, .int .i64 E.h.f2, .int .i64 E.h.f3, .int .i64 E.h.f4, .int .i64 E.h.f5, .int .i64 E.h.pair, .int .i64 E.h.pl, .slice q41 E.pairs.length q42, .int .i64 E.h.fn, .int .i64 E.h.fl, .slice q43 E.funs.length q44] 30) := ⟨_, rfl⟩
                 rw [← hwA]
                 have hb : Below w4.heap.size w4 wA := by rw [hwA]; exact bAl _ _
                 have HNB := hid (show wA.heap[w4.heap.size]? = some (.cells #[.int .i64 E.h.f0, .int .i64 E.h.f1, .int .i64 E.h.f2, .int .i64 E.h.f3, .int .i64 E.h.f4, .int .i64 E.h.f5, .int .i64 E.h.pair, .int .i64 E.h.pl, .slice q41 E.pairs.length q42, .int .i64 E.h.fn, .int .i64 E.h.fl, .slice q43 E.funs.length q44] 30 (0, 0)) by rw [hwA]; exact heap_alloc_new _ _)
                 obtain ⟨rs, hown, hraw⟩ := HROW.out
                 rw [HLE.out] at hown
                 have HOA := hid (show wA.ownsRow V2.heap.size 30 12 (.slice ra k rc) k (cosCells rs) by rw [hwA]; exact hown.alloc _)
                 have HRAW := hid hraw
                 have HWA := hid hwA
                 replace oc := (hb.cell (p := ⟨_, 11, none⟩) (Nat.lt_of_lt_of_le HG3V.out HBT.out.size)).trans oc
                 replace HBT := hid (HBT.out.trans (hb.mono HBT.out.size))
                 have HW1 := hid (show V2.heap.size ≤ wA.heap.size from (HKB.out.then HBT.out).size)
                 clear hb hwA hown hraw
                 clear hHeld
                 refine hK.out _ _ (by (try dsimp only); exact HKB.out.then HBT.out) (fun hHeld => ?_)
                 clear hK K
                 (try simp only [pq1, ls0, ls1])
                 refine' tk_call 14 ?hi2m (by kernel_rfl) ?hr2m
                 case hi2m => rfl
                 intro K hK
                 refine step_append_lies _ (by rfl) _ _ _ (by rfl) V2.heap.size 30 i0 _ 12 128 Tryd.underlying28 hi hz0 hz1 hz2 rfl (by omega) (.slice ra k rc) k (cosCells rs) (by rfl) HOA.out ⟨w4.heap.size, 0, none⟩ 1 1 [.int .i64 E.h.f0, .int .i64 E.h.f1, .int .i64 E.h.f2, .int .i64 E.h.f3, .int .i64 E.h.f4, .int .i64 E.h.f5, .int .i64 E.h.pair, .int .i64 E.h.pl, .slice q41 E.pairs.length q42, .int .i64 E.h.fn, .int .i64 E.h.fl, .slice q43 E.funs.length q44] (by rfl) (by rfl) (World.news_of_block (cs := #[.int .i64 E.h.f0, .int .i64 E.h.f1, .int .i64 E.h.f2, .int .i64 E.h.f3, .int .i64 E.h.f4, .int .i64 E.h.f5, .int .i64 E.h.pair, .int .i64 E.h.pl, .slice q41 E.pairs.length q42, .int .i64 E.h.fn, .int .i64 E.h.fl, .slice q43 E.funs.length q44]) (t := 30) (fr := (0, 0)) HNB.out) (by simp [Value.oneCell']) (by omega) (by unfold maxLen; omega) (by omega) HW1.out wA.heap.size rfl ?_
                 intro gg cap w9 hown9 hgrow9 hat9 hlt9
                 have hb9 : But (w.heap.size + 3) V2 w9 := (HKB.out.then HBT.out).grown hgrow9 (fun x hx => (HOW.out x hx).1)
                 have hbx9 : CBox w9 (w.heap.size + 3) 30 ⟨mixE c d (P.1) (P.2.1) (2) (Y.h.fl), .slice ua un ub, .slice ra k rc⟩ := (hgrow9.block _ (Nat.lt_of_lt_of_le HG3V.out HBT.out.size) (fun e => by have h1 := (HOW.out _ e.symm).1; have h2 := HG3.out; omega)).trans (HS.out.o.keep HBT.out)
                 have hs9 : RmS w w9 ⟨c.h, .slice pa np pc, .slice fa nf fc⟩ ⟨d.h, .slice qa mp qc, .slice ga mf gc⟩ ⟨mixE c d (P.1) (P.2.1) (2) (Y.h.fl), .slice ua un ub, .slice ra k rc⟩ := HSB.out.but hb9 hbx9
                 have hrow9 : RowC 30 (fun x => (N x ∨ x = w.heap.size + 2) ∨ x = w.heap.size + 3) V2.heap.size w9 (.slice (some ⟨gg, 0, none⟩) (k + 1) cap) (((List.range k).map fun j => compF n (d.funs.getD j co0) (c.funs.getD j co0)) ++ [E]) := by
                  have h2 : RawCo w4 (fun b => Lc (fun x => (N x ∨ x = w.heap.size + 2) ∨ x = w.heap.size + 3) w4 b ∧ (Value.slice ra k rc).ownBlock ≠ some b) ⟨E.h, .slice q41 E.pairs.length q42, .slice q43 E.funs.length q44⟩ E := HU4.out.raw.mono (fun b h => ⟨⟨h.1, fun e => h.2 (.inl e)⟩, fun e => h.2 (.inr e)⟩) fun _ _ _ => rfl
                  have h1 := HRAW.out
                  have hg9 := hgrow9
                  rw [HWA.out] at hg9
                  have hl9 : (Value.slice ra k rc).ownBlock = some gg ∨ gg = w4.heap.size + 1 := hat9.imp id fun h => by rw [h, HWA.out]; simp
                  have hlen := HLE.out
                  have h3 := rowc_push (l := ((List.range k).map fun j => compF n (d.funs.getD j co0) (c.funs.getD j co0))) (cap := cap) h1 h2 hg9 hl9 (by rw [hlen]; exact hown9)
                  rw [hlen] at h3
                  exact h3
                 have hc9 : w9.cell? ⟨(w.heap.size + 3), 11, none⟩ = some (.slice ra k rc) := hbx9.c11
                 have hf9 : w9.frozen? ⟨(w.heap.size + 3), 11, none⟩ = false := hbx9.fr 11
                 have HB9 := hid hb9
                 have HS9 := hid hs9
                 have HROW9 := hid hrow9
                 clear hb9 hbx9 hs9 hrow9 hown9 hgrow9 hat9 hlt9
                 clear hHeld
                 refine hK.out _ _ (by (try dsimp only); exact HB9.out) (fun hHeld => ?_)
                 clear hK K
                 (try simp only [pq1, ls0, ls1])
                 refine' tk_q 15 176 hHeld ?hi2n ?hr2n
                 case hi2n => (refine ⟨_, rfl, rfl, rfl, fun w hSw => ?_⟩; (try dsimp only at hSw); go_simp; (try with_reducible rfl))
                 (try simp only [pq1, ls0, ls1])
                 refine' tk_call 16 ?hi2o (by kernel_rfl) ?hr2o
                 case hi2o => rfl
                 intro K hK
                 go_simp
                 clear hHeld
                 refine hK.out _ _ (by (try dsimp only); exact HB9.out.set _ _) (fun hHeld => ?_)
                 clear hK K
                 (try simp only [pq1, ls0, ls1])
                 refine wpAnyH_done (by kernel_rfl) ?_ _
                 refine NoPanic.normal ?_
                 rw [← HSN.out] at HROW9
                 go_wp2
                 go_meet
                 case rel =>
                  have hF : F = (2, 0, rowF n c d) := by rw [HFE.out, if_pos KT.out, if_pos HK3.out]
                  have hn : vn = k + 1 := by rw [HVN.out, hF]; exact HRL2.out
                  have hs := HS9.out.but ((But.refl _ _).set 11 _) (HS9.out.o.s11 (x := .slice (some ⟨gg, 0, none⟩) (k + 1) cap))
                  rw [HYL.out] at hs
                  rw [hF, hn]
                  exact ⟨some ⟨gg, 0, none⟩, cap, hid hs, hid (CoSN.but HPR.out (HB9.out.set 11 (.slice (some ⟨gg, 0, none⟩) (k + 1) cap)) (.inr rfl)), hid ((HROW9.out.store (i := 11) (x := .slice (some ⟨gg, 0, none⟩) (k + 1) cap) (.inr rfl) HG3.out).done (HMB.out V2 HSB.out.o.lt) (by rw [HRL2.out]; unfold maxLen; have := HKK.out; omega))⟩
                case hb2j =>
                 intro K hK
                 go_simp
                 go_at_call 36
                 refine (HFX.out wd _ _ (fun x => (fun x => (N x ∨ x = w.heap.size + 2) ∨ x = w.heap.size + 3) x ∨ (Value.slice ra k rc).ownBlock = some x) (fun x hx => hx.elim ((HMB.out wd (Nat.le_trans HSB.out.o.lt (HKB.out.then HBT.out).size)) x) fun h => Nat.lt_of_lt_of_le (HOW.out x h).2 HBT.out.size) (CoVN.but (CoVN.later (M := (fun x => (fun x => (N x ∨ x = w.heap.size + 2) ∨ x = w.heap.size + 3) x ∨ (Value.slice ra k rc).ownBlock = some x)) HVc.out (Below.refl _ _) (fun b h => h.elim (fun h => .inl h) fun h => .inr (HOW.out b h).1)) (HKB.out.then HBT.out) (.inl (.inr rfl))) (CoVN.but (CoVN.later (M := (fun x => (fun x => (N x ∨ x = w.heap.size + 2) ∨ x = w.heap.size + 3) x ∨ (Value.slice ra k rc).ownBlock = some x)) HVd.out (Below.refl _ _) (fun b h => h.elim (fun h => .inl h) fun h => .inr (HOW.out b h).1)) (HKB.out.then HBT.out) (.inl (.inr rfl)))).mono ?_
                 rintro e w4 ⟨⟨u, rfl, hu⟩, hb⟩
                 obtain ⟨q41, q42, q43, q44, rfl, _, _⟩ := hu.form
                 have HU4 := hid hu
                 replace oc := (hb.cell (p := ⟨_, 11, none⟩) (Nat.lt_of_lt_of_le HG3V.out HBT.out.size)).trans oc
                 replace HROW := hid (HROW.out.below hb)
                 replace HBT := hid (HBT.out.trans (hb.mono HBT.out.size))
                 clear hu hb
                 go_wp2_with fail
                 clear hHeld
                 refine hK.out _ _ (by (try dsimp only); exact HKB.out.then HBT.out) (fun hHeld => ?_)
                 clear hK K
                 (try simp only [pq1, ls0, ls1])
                 refine' tk_two 1 13 ?hi2p ?hj2p (by kernel_rfl) ?ha2p ?hb2p
                 case hi2p => rfl
                 case hj2p => rfl
                 case ha2p =>
                  intro K hK
                  go_simp
                  clear hHeld
                  refine hK.out _ _ (by (try dsimp only); exact HKB.out.then HBT.out) (fun hHeld => ?_)
                  clear hK K
                  (try simp only [pq1, ls0, ls1])
                  refine' tk_call 13 ?hi2q (by kernel_rfl) ?hr2q
                  case hi2q => rfl
                  intro K hK
                  go_simp
                  obtain ⟨wA, hwA⟩ : ∃ wA : World, wA = w4.alloc (.cells #[.int .i64 E.h.f0, .int .i64 E.h.f1, .int .i64 E.h.f2, .int .i64 E.h.f3, .int .i64 E.h.f4, .int .i64 E.h.f5, .int .i64 E.h.pair, .int .i64 E.h.pl, .slice q41 E.pairs.length q42, .int .i64 E.h.fn, .int .i64 E.h.fl, .slice q43 E.funs.length q44] 30) := ⟨_, rfl⟩
                  rw [← hwA]
                  have hb : Below w4.heap.size w4 wA := by rw [hwA]; exact bAl _ _
                  have HNB := hid (show wA.heap[w4.heap.size]? = some (.cells #[.int .i64 E.h.f0, .int .i64 E.h.f1, .int .i64 E.h.f2, .int .i64 E.h.f3, .int .i64 E.h.f4, .int .i64 E.h.f5, .int .i64 E.h.pair, .int .i64 E.h.pl, .slice q41 E.pairs.length q42, .int .i64 E.h.fn, .int .i64 E.h.fl, .slice q43 E.funs.length q44] 30 (0, 0)) by rw [hwA]; exact heap_alloc_new _ _)
                  obtain ⟨rs, hown, hraw⟩ := HROW.out
                  rw [HLE.out] at hown
                  have HOA := hid (show wA.ownsRow V2.heap.size 30 12 (.slice ra k rc) k (cosCells rs) by rw [hwA]; exact hown.alloc _)
                  have HRAW := hid hraw
                  have HWA := hid hwA
                  replace oc := (hb.cell (p := ⟨_, 11, none⟩) (Nat.lt_of_lt_of_le HG3V.out HBT.out.size)).trans oc
                  replace HBT := hid (HBT.out.trans (hb.mono HBT.out.size))
                  have HW1 := hid (show V2.heap.size ≤ wA.heap.size from (HKB.out.then HBT.out).size)
                  clear hb hwA hown hraw
                  clear hHeld
                  refine hK.out _ _ (by (try dsimp only); exact HKB.out.then HBT.out) (fun hHeld => ?_)
                  clear hK K
                  (try simp only [pq1, ls0, ls1])
                  refine' tk_call 14 ?hi2r (by kernel_rfl) ?hr2r
                  case hi2r => rfl
                  intro K hK
                  refine step_append_lies _ (by rfl) _ _ _ (by rfl) V2.heap.size 30 i0 _ 12 128 Tryd.underlying28 hi hz0 hz1 hz2 rfl (by omega) (.slice ra k rc) k (cosCells rs) (by rfl) HOA.out ⟨w4.heap.size, 0, none⟩ 1 1 [.int .i64 E.h.f0, .int .i64 E.h.f1, .int .i64 E.h.f2, .int .i64 E.h.f3, .int .i64 E.h.f4, .int .i64 E.h.f5, .int .i64 E.h.pair, .int .i64 E.h.pl, .slice q41 E.pairs.length q42, .int .i64 E.h.fn, .int .i64 E.h.fl, .slice q43 E.funs.length q44] (by rfl) (by rfl) (World.news_of_block (cs := #[.int .i64 E.h.f0, .int .i64 E.h.f1, .int .i64 E.h.f2, .int .i64 E.h.f3, .int .i64 E.h.f4, .int .i64 E.h.f5, .int .i64 E.h.pair, .int .i64 E.h.pl, .slice q41 E.pairs.length q42, .int .i64 E.h.fn, .int .i64 E.h.fl, .slice q43 E.funs.length q44]) (t := 30) (fr := (0, 0)) HNB.out) (by simp [Value.oneCell']) (by omega) (by unfold maxLen; omega) (by omega) HW1.out wA.heap.size rfl ?_
                  intro gg cap w9 hown9 hgrow9 hat9 hlt9
                  have hb9 : But (w.heap.size + 3) V2 w9 := (HKB.out.then HBT.out).grown hgrow9 (fun x hx => (HOW.out x hx).1)
                  have hbx9 : CBox w9 (w.heap.size + 3) 30 ⟨mixE c d (P.1) (P.2.1) (2) (Y.h.fl), .slice ua un ub, .slice ra k rc⟩ := (hgrow9.block _ (Nat.lt_of_lt_of_le HG3V.out HBT.out.size) (fun e => by have h1 := (HOW.out _ e.symm).1; have h2 := HG3.out; omega)).trans (HS.out.o.keep HBT.out)
                  have hs9 : RmS w w9 ⟨c.h, .slice pa np pc, .slice fa nf fc⟩ ⟨d.h, .slice qa mp qc, .slice ga mf gc⟩ ⟨mixE c d (P.1) (P.2.1) (2) (Y.h.fl), .slice ua un ub, .slice ra k rc⟩ := HSB.out.but hb9 hbx9
                  have hrow9 : RowC 30 (fun x => (N x ∨ x = w.heap.size + 2) ∨ x = w.heap.size + 3) V2.heap.size w9 (.slice (some ⟨gg, 0, none⟩) (k + 1) cap) (((List.range k).map fun j => compF n (d.funs.getD j co0) (c.funs.getD j co0)) ++ [E]) := by
                   have h2 : RawCo w4 (fun b => Lc (fun x => (N x ∨ x = w.heap.size + 2) ∨ x = w.heap.size + 3) w4 b ∧ (Value.slice ra k rc).ownBlock ≠ some b) ⟨E.h, .slice q41 E.pairs.length q42, .slice q43 E.funs.length q44⟩ E := HU4.out.raw.mono (fun b h => ⟨⟨h.1, fun e => h.2 (.inl e)⟩, fun e => h.2 (.inr e)⟩) fun _ _ _ => rfl
                   have h1 := HRAW.out
                   have hg9 := hgrow9
                   rw [HWA.out] at hg9
                   have hl9 : (Value.slice ra k rc).ownBlock = some gg ∨ gg = w4.heap.size + 1 := hat9.imp id fun h => by rw [h, HWA.out]; simp
                   have hlen := HLE.out
                   have h3 := rowc_push (l := ((List.range k).map fun j => compF n (d.funs.getD j co0) (c.funs.getD j co0))) (cap := cap) h1 h2 hg9 hl9 (by rw [hlen]; exact hown9)
                   rw [hlen] at h3
                   exact h3
                  have hc9 : w9.cell? ⟨(w.heap.size + 3), 11, none⟩ = some (.slice ra k rc) := hbx9.c11
                  have hf9 : w9.frozen? ⟨(w.heap.size + 3), 11, none⟩ = false := hbx9.fr 11
                  have HB9 := hid hb9
                  have HS9 := hid hs9
                  have HROW9 := hid hrow9
                  clear hb9 hbx9 hs9 hrow9 hown9 hgrow9 hat9 hlt9
                  clear hHeld
                  refine hK.out _ _ (by (try dsimp only); exact HB9.out) (fun hHeld => ?_)
                  clear hK K
                  (try simp only [pq1, ls0, ls1])
                  refine' tk_q 15 176 hHeld ?hi2s ?hr2s
                  case hi2s => (refine ⟨_, rfl, rfl, rfl, fun w hSw => ?_⟩; (try dsimp only at hSw); go_simp; (try with_reducible rfl))
                  (try simp only [pq1, ls0, ls1])
                  refine' tk_call 16 ?hi2t (by kernel_rfl) ?hr2t
                  case hi2t => rfl
                  intro K hK
                  go_simp
                  clear hHeld
                  refine hK.out _ _ (by (try dsimp only); exact HB9.out.set _ _) (fun hHeld => ?_)
                  clear hK K
                  (try simp only [pq1, ls0, ls1])
                  refine wpAnyH_done (by kernel_rfl) ?_ _
                  refine NoPanic.normal ?_
                  rw [← HSN.out] at HROW9
                  go_wp2
                  go_meet
                  case rel =>
                   have hF : F = (2, 0, rowF n c d) := by rw [HFE.out, if_pos KT.out, if_pos HK3.out]
                   have hn : vn = k + 1 := by rw [HVN.out, hF]; exact HRL2.out
                   have hs := HS9.out.but ((But.refl _ _).set 11 _) (HS9.out.o.s11 (x := .slice (some ⟨gg, 0, none⟩) (k + 1) cap))
                   rw [HYL.out] at hs
                   rw [hF, hn]
                   exact ⟨some ⟨gg, 0, none⟩, cap, hid hs, hid (CoSN.but HPR.out (HB9.out.set 11 (.slice (some ⟨gg, 0, none⟩) (k + 1) cap)) (.inr rfl)), hid ((HROW9.out.store (i := 11) (x := .slice (some ⟨gg, 0, none⟩) (k + 1) cap) (.inr rfl) HG3.out).done (HMB.out V2 HSB.out.o.lt) (by rw [HRL2.out]; unfold maxLen; have := HKK.out; omega))⟩
                 case hb2p =>
                  intro K hK
                  go_simp
                  obtain ⟨wA, hwA⟩ : ∃ wA : World, wA = w4.alloc (.cells #[.int .i64 E.h.f0, .int .i64 E.h.f1, .int .i64 E.h.f2, .int .i64 E.h.f3, .int .i64 E.h.f4, .int .i64 E.h.f5, .int .i64 E.h.pair, .int .i64 E.h.pl, .slice q41 E.pairs.length q42, .int .i64 E.h.fn, .int .i64 E.h.fl, .slice q43 E.funs.length q44] 30) := ⟨_, rfl⟩
                  rw [← hwA]
                  have hb : Below w4.heap.size w4 wA := by rw [hwA]; exact bAl _ _
                  have HNB := hid (show wA.heap[w4.heap.size]? = some (.cells #[.int .i64 E.h.f0, .int .i64 E.h.f1, .int .i64 E.h.f2, .int .i64 E.h.f3, .int .i64 E.h.f4, .int .i64 E.h.f5, .int .i64 E.h.pair, .int .i64 E.h.pl, .slice q41 E.pairs.length q42, .int .i64 E.h.fn, .int .i64 E.h.fl, .slice q43 E.funs.length q44] 30 (0, 0)) by rw [hwA]; exact heap_alloc_new _ _)
                  obtain ⟨rs, hown, hraw⟩ := HROW.out
                  rw [HLE.out] at hown
                  have HOA := hid (show wA.ownsRow V2.heap.size 30 12 (.slice ra k rc) k (cosCells rs) by rw [hwA]; exact hown.alloc _)
                  have HRAW := hid hraw
                  have HWA := hid hwA
                  replace oc := (hb.cell (p := ⟨_, 11, none⟩) (Nat.lt_of_lt_of_le HG3V.out HBT.out.size)).trans oc
                  replace HBT := hid (HBT.out.trans (hb.mono HBT.out.size))
                  have HW1 := hid (show V2.heap.size ≤ wA.heap.size from (HKB.out.then HBT.out).size)
                  clear hb hwA hown hraw
                  clear hHeld
                  refine hK.out _ _ (by (try dsimp only); exact HKB.out.then HBT.out) (fun hHeld => ?_)
                  clear hK K
                  (try simp only [pq1, ls0, ls1])
                  refine' tk_call 1 ?hi2u (by kernel_rfl) ?hr2u
                  case hi2u => rfl
                  intro K hK
                  go_simp
                  clear hHeld
                  refine hK.out _ _ (by (try dsimp only); exact HKB.out.then HBT.out) (fun hHeld => ?_)
                  clear hK K
                  (try simp only [pq1, ls0, ls1])
                  refine' tk_call 14 ?hi2v (by kernel_rfl) ?hr2v
                  case hi2v => rfl
                  intro K hK
                  refine step_append_lies _ (by rfl) _ _ _ (by rfl) V2.heap.size 30 i0 _ 12 128 Tryd.underlying28 hi hz0 hz1 hz2 rfl (by omega) (.slice ra k rc) k (cosCells rs) (by rfl) HOA.out ⟨w4.heap.size, 0, none⟩ 1 1 [.int .i64 E.h.f0, .int .i64 E.h.f1, .int .i64 E.h.f2, .int .i64 E.h.f3, .int .i64 E.h.f4, .int .i64 E.h.f5, .int .i64 E.h.pair, .int .i64 E.h.pl, .slice q41 E.pairs.length q42, .int .i64 E.h.fn, .int .i64 E.h.fl, .slice q43 E.funs.length q44] (by rfl) (by rfl) (World.news_of_block (cs := #[.int .i64 E.h.f0, .int .i64 E.h.f1, .int .i64 E.h.f2, .int .i64 E.h.f3, .int .i64 E.h.f4, .int .i64 E.h.f5, .int .i64 E.h.pair, .int .i64 E.h.pl, .slice q41 E.pairs.length q42, .int .i64 E.h.fn, .int .i64 E.h.fl, .slice q43 E.funs.length q44]) (t := 30) (fr := (0, 0)) HNB.out) (by simp [Value.oneCell']) (by omega) (by unfold maxLen; omega) (by omega) HW1.out wA.heap.size rfl ?_
                  intro gg cap w9 hown9 hgrow9 hat9 hlt9
                  have hb9 : But (w.heap.size + 3) V2 w9 := (HKB.out.then HBT.out).grown hgrow9 (fun x hx => (HOW.out x hx).1)
                  have hbx9 : CBox w9 (w.heap.size + 3) 30 ⟨mixE c d (P.1) (P.2.1) (2) (Y.h.fl), .slice ua un ub, .slice ra k rc⟩ := (hgrow9.block _ (Nat.lt_of_lt_of_le HG3V.out HBT.out.size) (fun e => by have h1 := (HOW.out _ e.symm).1; have h2 := HG3.out; omega)).trans (HS.out.o.keep HBT.out)
                  have hs9 : RmS w w9 ⟨c.h, .slice pa np pc, .slice fa nf fc⟩ ⟨d.h, .slice qa mp qc, .slice ga mf gc⟩ ⟨mixE c d (P.1) (P.2.1) (2) (Y.h.fl), .slice ua un ub, .slice ra k rc⟩ := HSB.out.but hb9 hbx9
                  have hrow9 : RowC 30 (fun x => (N x ∨ x = w.heap.size + 2) ∨ x = w.heap.size + 3) V2.heap.size w9 (.slice (some ⟨gg, 0, none⟩) (k + 1) cap) (((List.range k).map fun j => compF n (d.funs.getD j co0) (c.funs.getD j co0)) ++ [E]) := by
                   have h2 : RawCo w4 (fun b => Lc (fun x => (N x ∨ x = w.heap.size + 2) ∨ x = w.heap.size + 3) w4 b ∧ (Value.slice ra k rc).ownBlock ≠ some b) ⟨E.h, .slice q41 E.pairs.length q42, .slice q43 E.funs.length q44⟩ E := HU4.out.raw.mono (fun b h => ⟨⟨h.1, fun e => h.2 (.inl e)⟩, fun e => h.2 (.inr e)⟩) fun _ _ _ => rfl
                   have h1 := HRAW.out
                   have hg9 := hgrow9
                   rw [HWA.out] at hg9
                   have hl9 : (Value.slice ra k rc).ownBlock = some gg ∨ gg = w4.heap.size + 1 := hat9.imp id fun h => by rw [h, HWA.out]; simp
                   have hlen := HLE.out
                   have h3 := rowc_push (l := ((List.range k).map fun j => compF n (d.funs.getD j co0) (c.funs.getD j co0))) (cap := cap) h1 h2 hg9 hl9 (by rw [hlen]; exact hown9)
                   rw [hlen] at h3
                   exact h3
                  have hc9 : w9.cell? ⟨(w.heap.size + 3), 11, none⟩ = some (.slice ra k rc) := hbx9.c11
                  have hf9 : w9.frozen? ⟨(w.heap.size + 3), 11, none⟩ = false := hbx9.fr 11
                  have HB9 := hid hb9
                  have HS9 := hid hs9
                  have HROW9 := hid hrow9
                  clear hb9 hbx9 hs9 hrow9 hown9 hgrow9 hat9 hlt9
                  clear hHeld
                  refine hK.out _ _ (by (try dsimp only); exact HB9.out) (fun hHeld => ?_)
                  clear hK K
                  (try simp only [pq1, ls0, ls1])
                  refine' tk_q 15 176 hHeld ?hi2w ?hr2w
                  case hi2w => (refine ⟨_, rfl, rfl, rfl, fun w hSw => ?_⟩; (try dsimp only at hSw); go_simp; (try with_reducible rfl))
                  (try simp only [pq1, ls0, ls1])
                  refine' tk_call 16 ?hi2x (by kernel_rfl) ?hr2x
                  case hi2x => rfl
                  intro K hK
                  go_simp
                  clear hHeld
                  refine hK.out _ _ (by (try dsimp only); exact HB9.out.set _ _) (fun hHeld => ?_)
                  clear hK K
                  (try simp only [pq1, ls0, ls1])
                  refine wpAnyH_done (by kernel_rfl) ?_ _
                  refine NoPanic.normal ?_
                  rw [← HSN.out] at HROW9
                  go_wp2
                  go_meet
                  case rel =>
                   have hF : F = (2, 0, rowF n c d) := by rw [HFE.out, if_pos KT.out, if_pos HK3.out]
                   have hn : vn = k + 1 := by rw [HVN.out, hF]; exact HRL2.out
                   have hs := HS9.out.but ((But.refl _ _).set 11 _) (HS9.out.o.s11 (x := .slice (some ⟨gg, 0, none⟩) (k + 1) cap))
                   rw [HYL.out] at hs
                   rw [hF, hn]
                   exact ⟨some ⟨gg, 0, none⟩, cap, hid hs, hid (CoSN.but HPR.out (HB9.out.set 11 (.slice (some ⟨gg, 0, none⟩) (k + 1) cap)) (.inr rfl)), hid ((HROW9.out.store (i := 11) (x := .slice (some ⟨gg, 0, none⟩) (k + 1) cap) (.inr rfl) HG3.out).done (HMB.out V2 HSB.out.o.lt) (by rw [HRL2.out]; unfold maxLen; have := HKK.out; omega))⟩
          case rest =>
           obtain ⟨va, vb, HS2, HPR2, HFR⟩ := hcut
           clear HS HROWX HPR
           obtain ⟨W8, rfl⟩ : ∃ x, x = wc := ⟨_, rfl⟩
           have HS := HS2
           have HPR := HPR2
           clear HS2 HPR2
           obtain ⟨eh, heh⟩ : ∃ x : Hd, x = mixE c d P.1 P.2.1 F.1 F.2.1 := ⟨_, rfl⟩
           rw [← heh] at HS
           have HRES := hid (show compF (n + 1) c d = .mk eh P.2.2 F.2.2 by rw [heh]; exact HRQ.out)
           have HUV := hid (And.intro HUN.out HVN.out)
           clear heh
           obtain ⟨o0, o1, o2, o3, o4, o5, o6, o7, o8, o9, o10, o11⟩ := HS.out.o.cs
           (try dsimp only at o0 o1 o2 o3 o4 o5 o6 o7 o8 o9 o10 o11)
           obtain ⟨r0, r1, r2, r3, r4, r5, r6, r7, r8, r9, r10, r11⟩ := HS.out.r.cs
           (try dsimp only at r0 r1 r2 r3 r4 r5 r6 r7 r8 r9 r10 r11)
           obtain ⟨fr0, fr1, fr2, fr3, fr4, fr5, fr6, fr7, fr8, fr9, fr10, fr11⟩ := HS.out.r.frs
           go_wp2
           have HPOST := hid (show CoPost N (compF (n + 1) c d) w (.returned (coV ⟨eh, .slice ua un ub, .slice va vn vb⟩)) (set12 W8 (w.heap.size + 2) ⟨eh, .slice ua un ub, .slice va vn vb⟩) by
            rw [HRES.out]
            have h1 := HPR.out
            have h2 := HFR.out
            exact ⟨⟨_, rfl, (CoVN.set12 (g := (w.heap.size + 2)) (CoVN.mk (h := eh) h1 h2) (.inl (.inr rfl))).mono fun _ _ h => .inl (.inl h)⟩, Below.set12 (g := (w.heap.size + 2)) HS.out.low (by omega)⟩)
           refine ret12 W8 (w.heap.size + 2) ⟨eh, .slice ua un ub, .slice va vn vb⟩ HS.out.r HPOST.out (fun wf hb => ?_) rfl
           obtain ⟨z0, z1, z2, z3, z4, z5, z6, z7, z8, z9, z10, z11⟩ := hb.cs
           simp [results, Tryd.results36, go_sem, coV, z0, z1, z2, z3, z4, z5, z6, z7, z8, z9, z10, z11]
theorem rm_any (n : Nat) : RmOK n := by
 induction n with
 | zero => intro c d vc vd w N _ _ h; have := htC_pos c; have := htC_pos d; omega
 | succ n ih => exact rm_succ n ih
end Go.Proofs.YtlalnkabfigodaaDoor
