import Derived.Test.YtlalnkabfigodaaDoorCoCs
import Derived.Deep.CutBlock
-- joined
namespace Go.Proofs.YtlalnkabfigodaaDoor
open Go.Lib (hid)
open Go.RowKit

theorem RowO.own {g B n : Nat} {w : World} {l : List Co} (h : RowO g B n w l) : RowC 25 (Old B) B w (.slice (some ⟨g, 0, none⟩) n n) l := by
 obtain ⟨h1, h2, h3, rs, hg, hr⟩ := h
 refine ⟨rs, ⟨by rw [cosCells_len, hr.1], .inr ⟨g, n, _, by rw [h1], h3, hg, by omega, by unfold maxLen; omega, by simp [cosCells_len, hr.1, h1], ?_⟩⟩, hr.mono (fun b hb => ⟨⟨hb.2.1, fun ho => by have := hb.1; unfold Old at ho; omega⟩, fun e => hb.2.2 (by simp only [Value.ownBlock, Option.some.injEq] at e; omega)⟩) fun _ _ _ => rfl⟩
 have e : l.length * 12 = (cosCells rs).length := by rw [cosCells_len, hr.1]
 rw [e]
 simp

set_option maxRecDepth 100000 in
set_option maxHeartbeats 16000000 in
theorem eachr_any {σ : Type} {N : Nat → Prop} {St : σ → World → Prop} {k : Nat} {lb : Array Value} {W0 : World} {Pre : Ty → σ → Prop} {Fm : Ty → Co} {Rel : Ty → σ → σ → Prop} (F : FnV (TyVN N) N St k lb W0 Pre (fun w w' v x => CoVN (Old w.heap.size) w' v (Fm x)) Rel)
  (hk2 : ∀ s w w', St s w → Stay (fun b => W0.heap.size ≤ b) w w' → St s w') (hN : ∀ b, N b → b < W0.heap.size)
  (l : List Ty) (a1 : Option Addr) (c1 : Nat) (w : World) (s : σ) (hw : Stay N W0 w) (hst : St s w) (hl : TyS w (Lo N w) (.slice a1 l.length c1) l) (hlen : l.length ≤ 100)
  (hpre : ∀ j s', j < l.length → ChainR ty0 Rel l j s s' → Pre (l.getD j ty0) s') :
  Calls Tryd.prog 94 #[.slice a1 l.length c1, .func (.func k) #[] lb] w
   fun e w' => (∃ v, e = .returned v ∧ RowC 25 (Old w.heap.size) w.heap.size w' v (l.map Fm)) ∧ Stay N w w' ∧ ∃ s', ChainR ty0 Rel l l.length s s' ∧ St s' w' := by
 obtain ⟨nl, hnl⟩ : ∃ n, n = l.length := ⟨_, rfl⟩
 rw [← hnl] at hl hpre hlen ⊢
 have eg := F.enter
 have hle : (nl : Int) ≤ 100 := by omega
 have HF := hid F
 have HNL := hid hnl
 have HL := hid hl
 have HP := hid hpre
 have HW := hid hw
 have HS := hid hst
 have HK := hid hk2
 have HN := hid hN
 have HLE := hid hlen
 clear F hnl hl hpre hw hst hk2 hN hlen
 by_cases h0 : nl = 0
 case pos =>
  have HL0 := hid (show l = [] from List.length_eq_zero_iff.1 (by rw [← HNL.out]; exact h0))
  subst h0
  go_enter Tryd.func94, Tryd.ntmps94
  go_wp2
  go_ret
  refine ⟨⟨_, rfl, ?_⟩, .refl, s, rfl, HS.out⟩
  rw [HL0.out]; exact RowC.nil
 have h1 : ((nl : Int) == 0) = false := beq_false_of_ne (by omega)
 have h00 : (0 : Int) ≤ (nl : Int) := by omega
 have hmk := mkco_any nl (by omega) w
 obtain ⟨W, hW⟩ : ∃ W, W = w.alloc (.cells (cosCells (List.replicate nl rawc0)).toArray 25) := ⟨_, rfl⟩
 rw [← hW] at hmk
 have HROW := hid (show RowO w.heap.size w.heap.size nl W (List.replicate nl co0) by rw [hW]; exact RowO.made nl (by have := HLE.out; omega) w)
 have HBW := hid (show Below w.heap.size w W by rw [hW]; exact bAl _ _)
 have HH0 := hid h0
 clear hW h0
 obtain ⟨g, hg⟩ : ∃ g, g = w.heap.size := ⟨_, rfl⟩
 rw [← hg] at hmk
 have HG := hid hg
 clear hg
 go_enter Tryd.func94, Tryd.ntmps94
 go_wp2
 go_loopw [6, 16] (fun _ i wr => ∃ j : Nat, j ≤ nl ∧ i = .int .i64 j ∧ Hid (∃ L, RowO g w.heap.size nl wr L ∧ ∀ i, i < j → L.getD i co0 = Fm (l.getD i ty0)) ∧ Hid (Stay N w wr) ∧ Hid (∃ s', ChainR ty0 Rel l j s s' ∧ St s' wr)) (fun _ i _ => nl - (intOf i).toNat)
 case atStart => exact ⟨0, Nat.zero_le _, rfl, hid ⟨_, by rw [HG.out]; exact HROW.out, fun j hj => absurd hj (Nat.not_lt_zero _)⟩, hid (.of HBW.out), hid ⟨s, rfl, HF.out.keep _ _ _ HS.out HBW.out⟩⟩
 case round =>
  obtain ⟨j, hj, rfl, HA, HB, HT⟩ := hrel
  by_cases hgo : j < nl
  ·
   have hkl : j < l.length := by rw [← HNL.out]; exact hgo
   obtain ⟨d, hd⟩ : ∃ d, l.getD j ty0 = d := ⟨_, rfl⟩
   obtain ⟨b, off, p1, c1', p2, c2', rfl, hb', e0, e1, e2, e3, e4, e5, hv⟩ := TySN.elem (TySN.stay HL.out HB.out) hkl hd
   obtain ⟨s1, hn1, hs1⟩ := HT.out
   have hRR : Pre d s1 := by have := HP.out j s1 (by omega) hn1; rwa [hd] at this
   have C : ∀ w1, Below wr.heap.size wr w1 → Calls Tryd.prog k (#[.agg #[.bool d.all, .int .i64 d.flat, .int .i64 d.pair, .slice p1 d.pairs.length c1', .int .i64 d.fn, .slice p2 d.funs.length c2']] ++ lb) w1
     fun e' w' => (∃ v, e' = .returned v ∧ CoVN (Old w1.heap.size) w' v (Fm d)) ∧ Stay N w w' ∧ Stay N wr w' ∧ (∃ s', ChainR ty0 Rel l (j + 1) s s' ∧ St s' w') := fun w1 h1 => by
    have hs := HB.out.then h1
    refine (HF.out.call w1 _ d s1 (HW.out.trans hs) (HF.out.keep _ _ _ hs1 h1) hRR (hv.below h1)).mono ?_
    rintro e' w' ⟨⟨v, h2, h2'⟩, h3, s', h4, h5⟩
    exact ⟨⟨v, h2, h2'⟩, hs.trans h3, (Stay.of h1).trans h3, s', ⟨s1, hn1, by rw [hd]; exact h4⟩, h5⟩
   obtain ⟨q1, hq1⟩ : ∃ q, q = d.pairs.length := ⟨_, rfl⟩
   obtain ⟨q2, hq2⟩ : ∃ q, q = d.funs.length := ⟨_, rfl⟩
   rw [← hq1] at e3 C
   rw [← hq2] at e5 C
   have HC2 := hid C
   have HD := hid hd
   have hlt : (j : Int) < nl := by omega
   have hj0 : (0 : Int) ≤ (j : Int) := by omega
   have HKL := hid hgo
   clear hd hv C hq1 hq2 hgo hj hkl hRR hn1 HT hs1
   go_wp2_with fail
   refine (HC2.out _ (bAl _ _)).mono ?_
   rintro e' w2 ⟨⟨v, rfl, hv⟩, hst2, hstr, hnx⟩
   obtain ⟨fd, hfd⟩ : ∃ c, c = Fm d := ⟨_, rfl⟩
   rw [← hfd] at hv
   obtain ⟨ra, rc, rb, rd, rfl, _, _⟩ := hv.form
   have hr := CoVN.raw (h := fd.h) hv
   obtain ⟨rn, hrn⟩ : ∃ n, n = fd.pairs.length := ⟨_, rfl⟩
   obtain ⟨rm, hrm⟩ : ∃ n, n = fd.funs.length := ⟨_, rfl⟩
   rw [← hrn, ← hrm] at hr ⊢
   have HFD := hid hfd
   clear hfd hrn hrm
   obtain ⟨L, hrow, hLL⟩ := HA.out
   have hrow2 := hrow.stay hstr (fun b hb => by have := HN.out b hb; have := HW.out.size; omega)
   have HR := hid (show RawCo w2 (BlkO w.heap.size g w2) ⟨fd.h, .slice ra rn rc, .slice rb rm rd⟩ fd from hr.mono (fun b hb => ⟨by have := HB.out.size; have := hb.2; unfold Old at this; simp only [alloc_hs7] at this; omega, hb.1, by have := hrow.lt; have := hb.2; unfold Old at this; simp only [alloc_hs7] at this; omega⟩) fun _ _ _ => rfl)
   obtain ⟨r', c0, c1, c2, c3, c4, c5, c6, c7, c8, c9, c10, c11, hfz⟩ := hrow2.get HKL.out
   have z0 := hfz (j * 12)
   have z1 := hfz (j * 12 + 1)
   have z2 := hfz (j * 12 + 2)
   have z3 := hfz (j * 12 + 3)
   have z4 := hfz (j * 12 + 4)
   have z5 := hfz (j * 12 + 5)
   have z6 := hfz (j * 12 + 6)
   have z7 := hfz (j * 12 + 7)
   have z8 := hfz (j * 12 + 8)
   have z9 := hfz (j * 12 + 9)
   have z10 := hfz (j * 12 + 10)
   have z11 := hfz (j * 12 + 11)
   have HROW2 := hid hrow2
   have HLL := hid hLL
   have HB2 := hid hst2
   have HN2 := hid hnx
   clear hst2 hnx hr hv hrow hrow2 hLL hfz hstr HA
   go_wp2
   refine ⟨⟨j + 1, by have := HKL.out; omega, by go_num, ?_, ?_, ?_⟩, by have := HKL.out; simp [intOf]; omega⟩
   ·
    have hset := RowO.set (r := ⟨fd.h, .slice ra rn rc, .slice rb rm rd⟩) (c := fd) HROW2.out HKL.out HR.out
    refine hid ⟨L.set j fd, hset, fun i hi => ?_⟩
    have hLn := HROW2.out.1
    by_cases e : i = j
    ·
     rw [e, HD.out, ← HFD.out]; simp [List.getD_eq_getElem?_getD, hLn, HKL.out]
    ·
     rw [← HLL.out i (by omega)]; simp [List.getD_eq_getElem?_getD, Ne.symm e]
   ·
    exact hid (Stay.setA (o := j * 12) (r := ⟨fd.h, .slice ra rn rc, .slice rb rm rd⟩) HB2.out (by rw [HG.out]; exact Nat.le_refl _))
   ·
    refine hid ?_
    obtain ⟨s', h1, h2⟩ := HN2.out
    exact ⟨s', h1, HK.out s' w2 _ h2 (Stay.setA2 (o := j * 12) (r := ⟨fd.h, .slice ra rn rc, .slice rb rm rd⟩) (by rw [HG.out]; exact HW.out.size))⟩
  ·
   have hlt : ¬ (j : Int) < nl := by omega
   have hjn : j = nl := by omega
   have HJ := hid hjn
   clear hgo hj hjn
   go_wp2
   go_ret
   obtain ⟨L, hrow, hLL⟩ := HA.out
   refine ⟨⟨_, rfl, ?_⟩, HB.out, by obtain ⟨s', h1, h2⟩ := HT.out; exact ⟨s', by rw [← HJ.out]; exact h1, h2⟩⟩
   have e : L = l.map Fm := by
    refine List.ext_getElem (by rw [hrow.1, List.length_map, HNL.out]) fun i h1 h2 => ?_
    have h3 := hLL i (by rw [HJ.out]; rw [hrow.1] at h1; exact h1)
    have h4 : i < l.length := by simpa using h2
    simpa [List.getD_eq_getElem?_getD, h1, h4] using h3
   rw [← e]; exact hrow.own

def hasPr7 (p : Int) (np : Nat) : Bool := (p == 1 && np == 2) || (p == 2 && np == 1)
def hasFr7 (g : Int) (nf : Nat) : Bool := (g == 1 && decide (0 < nf)) || (g == 2)
set_option maxRecDepth 100000 in
set_option maxHeartbeats 4000000 in
theorem hasP7_raw (a : Bool) (f p : Int) (pa : Option Addr) (np pc : Nat) (g : Int) (fa : Option Addr) (nf fc : Nat) (w : World) :
  Calls Tryd.prog 83 #[.agg #[.bool a, .int .i64 f, .int .i64 p, .slice pa np pc, .int .i64 g, .slice fa nf fc]] w fun e w' => e = .returned (.bool (hasPr7 p np)) ∧ Below w.heap.size w w' := by
 obtain ⟨z, hz⟩ : ∃ z, z = hasPr7 p np := ⟨_, rfl⟩
 rw [← hz]
 have dn : ∀ k : Nat, ((np : Int) == (k : Int)) = (np == k) := fun k => by
  by_cases h : np = k
  ·
   subst h; simp
  ·
   rw [beq_false_of_ne h]; exact beq_false_of_ne (by omega)
 have d1 := dn 1
 have d2 := dn 2
 unfold hasPr7 at hz
 have t1 : ∃ x, (p == 1) = x := ⟨_, rfl⟩
 have t2 : ∃ x, (p == 2) = x := ⟨_, rfl⟩
 have t3 : ∃ x, (np == 1) = x := ⟨_, rfl⟩
 have t4 : ∃ x, (np == 2) = x := ⟨_, rfl⟩
 obtain ⟨x1, t1⟩ := t1
 obtain ⟨x2, t2⟩ := t2
 obtain ⟨x3, t3⟩ := t3
 obtain ⟨x4, t4⟩ := t4
 rw [t3] at d1
 rw [t4] at d2
 rw [t1, t2, t3, t4] at hz
 have HZ := hid hz
 clear hz dn
 simp only [Int.cast_ofNat_Int] at d1 d2
 clear t3 t4
 cases x1 <;> cases x2 <;> cases x3 <;> cases x4
 all_goals
  go_enter Tryd.func83, Tryd.ntmps83
  go_wp2
  go_ret
  exact ⟨ret_bool (by rw [HZ.out]; rfl), bAl _ _⟩

set_option maxRecDepth 100000 in
set_option maxHeartbeats 4000000 in
theorem hasF7_raw (a : Bool) (f p : Int) (pa : Option Addr) (np pc : Nat) (g : Int) (fa : Option Addr) (nf fc : Nat) (w : World) :
  Calls Tryd.prog 84 #[.agg #[.bool a, .int .i64 f, .int .i64 p, .slice pa np pc, .int .i64 g, .slice fa nf fc]] w fun e w' => e = .returned (.bool (hasFr7 g nf)) ∧ Below w.heap.size w w' := by
 obtain ⟨z, hz⟩ : ∃ z, z = hasFr7 g nf := ⟨_, rfl⟩
 rw [← hz]
 unfold hasFr7 at hz
 obtain ⟨x1, t1⟩ : ∃ x, (g == 1) = x := ⟨_, rfl⟩
 obtain ⟨x2, t2⟩ : ∃ x, (g == 2) = x := ⟨_, rfl⟩
 rw [t1, t2] at hz
 by_cases h0 : nf = 0
 ·
  subst h0
  have HZ := hid hz
  clear hz
  cases x1 <;> cases x2
  all_goals
   go_enter Tryd.func84, Tryd.ntmps84
   go_wp2
   go_ret
   exact ⟨ret_bool (by rw [HZ.out]; rfl), bAl _ _⟩
 ·
  have hp : (0 : Int) < nf := by omega
  have hs : decide (0 < nf) = true := decide_eq_true (by omega)
  rw [hs] at hz
  have HZ := hid hz
  clear hz hs h0
  cases x1 <;> cases x2
  all_goals
   go_enter Tryd.func84, Tryd.ntmps84
   go_wp2
   go_ret
   exact ⟨ret_bool (by rw [HZ.out]; rfl), bAl _ _⟩
end Go.Proofs.YtlalnkabfigodaaDoor
namespace Go.Proofs.YtlalnkabfigodaaDoor
open Go.Lib (hid)
open Go.RowKit

/-- what wrapping makes: of pairs, of procedures -/
def wrP (l : Int) (t : Ty) (p : List Co) : Int × Int × List Co := if t.pair = 0 then (0, 0, []) else if t.pair = 2 then (if l = 0 ∧ allC p = true then (0, 0, []) else (3, l, p)) else (if allC p = true then (0, 0, []) else (2, 0, p))
def wrF (t : Ty) (f : List Co) : Int × List Co := if t.fn = 1 ∧ allC f = false then (2, f) else (0, [])
def wrC (l : Int) (t : Ty) (p f : List Co) : Co := .mk ⟨0, 0, 0, 0, 0, 0, (wrP l t p).1, (wrP l t p).2.1, (wrF t f).1, 0⟩ (wrP l t p).2.2 (wrF t f).2
/-- what it hands back -/
def WrPost (N : Nat → Prop) (St : Nat → World → Prop) (lim : Nat) (c : Co) (w : World) (e : Ending) (w' : World) : Prop := (∃ v, e = .returned v ∧ CoVN (Old w.heap.size) w' v c) ∧ Stay N w w' ∧ ∃ s', s' ≤ lim ∧ St s' w'
theorem Stay.only12 {B g : Nat} {w : World} {r : RawC} (hg : B ≤ g) : Stay (fun b => B ≤ b) w (Go.Proofs.YtlalnkabfigodaaDoor.set12 w g r) :=
 (((((((((((((Stay.refl (N := fun b => B ≤ b) (a := w)).set (p := ⟨g, 0, Option.none⟩) hg (.int .i64 r.h.f0)).set (p := ⟨g, 1, Option.none⟩) hg (.int .i64 r.h.f1)).set (p := ⟨g, 2, Option.none⟩) hg (.int .i64 r.h.f2)).set (p := ⟨g, 3, Option.none⟩) hg (.int .i64 r.h.f3)).set (p := ⟨g, 4, Option.none⟩) hg (.int .i64 r.h.f4)).set (p := ⟨g, 5, Option.none⟩) hg (.int .i64 r.h.f5)).set (p := ⟨g, 6, Option.none⟩) hg (.int .i64 r.h.pair)).set (p := ⟨g, 7, Option.none⟩) hg (.int .i64 r.h.pl)).set (p := ⟨g, 8, Option.none⟩) hg (r.pv)).set (p := ⟨g, 9, Option.none⟩) hg (.int .i64 r.h.fn)).set (p := ⟨g, 10, Option.none⟩) hg (.int .i64 r.h.fl)).set (p := ⟨g, 11, Option.none⟩) hg (r.fv))
theorem WrPost.cell {N : Nat → Prop} {St : Nat → World → Prop} {lim s g B b1 : Nat} {c : Co} {w w2 : World} {v : Value} {r : RawC} (hk2 : ∀ s w w', St s w → Stay (fun b => B ≤ b) w w' → St s w') (hB : B ≤ w.heap.size) (hv : CoVN (Old b1) w2 v c) (h1 : w.heap.size ≤ g) (h2 : g < b1) (hs : Stay N w w2) (hl : s ≤ lim) (hst : St s w2) : WrPost N St lim c w (.returned v) (Go.Proofs.YtlalnkabfigodaaDoor.set12 w2 g r) :=
 ⟨⟨v, rfl, (CoVN.set12 (g := g) (r' := r) hv h2).mono fun _ _ h => Nat.lt_trans (Nat.lt_of_lt_of_le h h1) h2⟩, hs.set12 h1, s, hl, hk2 _ _ _ hst (Stay.only12 (Nat.le_trans hB h1))⟩
theorem BoxAt.off7 {w : World} {g m i : Nat} {a : Bool} {f p k : Int} {pv fv x : Value} (h : BoxAt w g a f p pv k fv) (hm : g ≠ m) : BoxAt (w.setCell ⟨m, i, none⟩ x) g a f p pv k fv := (Below.heap_setCell w ⟨m, i, none⟩ x g hm).trans h
theorem Stay.grown7 {N : Nat → Prop} {w a b : World} {g : Option Nat} (h : Stay N w a) (k : a.grownBy b g) (hg : ∀ x, g = some x → w.heap.size ≤ x ∨ N x) : Stay N w b :=
 ⟨k.os.trans h.os, k.tape.trans h.tape, k.output.trans h.output, Nat.le_trans h.size k.size, fun i hi hn => (k.block i (Nat.lt_of_lt_of_le hi h.size) (fun e => (hg i e.symm).elim (fun h => by omega) hn)).trans (h.block i hi hn)⟩
theorem RowC.stay7 {T : TypeId} {N : Nat → Prop} {B : Nat} {w w' : World} {v : Value} {l : List Co} (h : RowC T (Old B) B w v l) (hs : Stay N w w') (hN : ∀ b, N b → b < B) : RowC T (Old B) B w' v l := by
 have hlt := h.lt
 obtain ⟨rs, ho, hraw⟩ := h
 refine ⟨rs, ?_, hraw.mono (fun b hb => ⟨⟨Nat.lt_of_lt_of_le hb.1.1 hs.size, hb.1.2⟩, hb.2⟩) fun b o hb => hs.cell (p := ⟨b, o, none⟩) hb.1.1 fun hn => hb.1.2 (hN _ hn)⟩
 obtain ⟨h1, h2⟩ := ho
 refine ⟨h1, ?_⟩
 rcases h2 with h2 | ⟨g, cap, cur, hv, hg, hh, rest⟩
 ·
  exact .inl h2
 ·
  exact .inr ⟨g, cap, cur, hv, hg, (hs.block g (Array.getElem?_eq_some_iff.1 hh).1 fun hn => by have := hN _ hn; omega).trans hh, rest⟩
theorem map_take7 (P : Ty → Co) (l : List Ty) (m : Nat) (h : m ≤ l.length) : ((List.range m).map fun i => P (l.getD i ty0)) = (l.take m).map P := by
 refine List.ext_getElem (by simp; omega) fun i h1 h2 => ?_
 have h3 : i < l.length := by simp at h1; omega
 simp [List.getD_eq_getElem?_getD, h3]
theorem szTs_snoc7 : ∀ (l : List Ty) (k : Nat), k < l.length → szTs (l.take (k + 1)) = szTs (l.take k) + szT (l.getD k ty0)
 | [], k, h => by simp at h
 | d :: r, 0, _ => by simp [szTs]
 | d :: r, k + 1, h => by
  have := szTs_snoc7 r k (by simpa using h)
  simp only [List.take_succ_cons, szTs, List.getD_cons_succ, this]; omega
theorem szTs_le7 : ∀ (l : List Ty) (k : Nat), szTs (l.take k) ≤ szTs l
 | [], k => by simp
 | d :: r, 0 => by simp [szTs]
 | d :: r, k + 1 => by
  have := szTs_le7 r k
  simp only [List.take_succ_cons, szTs]; omega
theorem chain_szT {l : List Ty} : ∀ {j s t : Nat}, j ≤ l.length → ChainR ty0 (fun x (s t : Nat) => t ≤ s + szT x) l j s t → t ≤ s + szTs (l.take j) := by
 intro j
 induction j with
 | zero => intro s t _ h; have h : t = s := h; subst h; simp
 | succ j ih =>
  rintro s t hj ⟨u, h1, h2⟩
  have h4 := ih (by omega) h1
  rw [szTs_snoc7 l j (by omega)]; omega
theorem TyS.take7 {w : World} {ok : Nat → Prop} {a : Option Addr} {n c : Nat} {l : List Ty} (h : TyS w ok (.slice a n c) l) (k : Nat) (hk : k ≤ l.length) : TyS w ok (.slice a k c) (l.take k) := by
 rcases h.inv with ⟨rfl, a', c', e⟩ | ⟨b, off, cap, rs, e, hb, hm, hc, hr⟩
 ·
  have : k = 0 := by simpa using hk
  subst this
  exact .mkNil _ _
 ·
  have hroom := h.room
  cases e
  have hl : (l.take k).length = k := by rw [List.length_take]; omega
  have hg : ∀ j, j < k → (rs.take k).getD j raw0 = rs.getD j raw0 := fun j hj => by simp [List.getD_eq_getElem?_getD, hj]
  have hg2 : ∀ j, j < k → (l.take k).getD j ty0 = l.getD j ty0 := fun j hj => by simp [List.getD_eq_getElem?_getD, hj]
  have hrow : Rows6 w b off (rs.take k) := fun j hj => by
   have hj2 : j < k := by rw [List.length_take] at hj; omega
   rw [hg j hj2]
   exact hc j (by rw [hr.1]; omega)
  have hraw : RawsOf w ok (rs.take k) (l.take k) := by
   refine ⟨by rw [List.length_take, List.length_take, hr.1], fun j hj => ?_⟩
   rw [hl] at hj
   rw [hg j hj, hg2 j hj]
   exact hr.2 j (by omega)
  have := TyS.mk (l := l.take k) (rs := rs.take k) (cap := c) (off := off) hb (by rw [hl]; omega) hrow hraw (by rw [hl]; omega)
  rwa [hl] at this

set_option maxRecDepth 100000 in
set_option maxHeartbeats 32000000 in
theorem wrapping_any {N : Nat → Prop} {St : Nat → World → Prop} {k1 k2 : Nat} {lb1 lb2 : Array Value} {W0 : World} {R : Ty → Prop} {P1 P2 : Ty → Co} {M : Nat} (F1 : FnV (TyVN N) N St k1 lb1 W0 (fun x s => R x ∧ s + szT x ≤ M) (fun w w' v x => CoVN (Old w.heap.size) w' v (P1 x)) (fun x s s' => s' ≤ s + szT x)) (F2 : FnV (TyVN N) N St k2 lb2 W0 (fun x s => R x ∧ s + szT x ≤ M) (fun w w' v x => CoVN (Old w.heap.size) w' v (P2 x)) (fun x s s' => s' ≤ s + szT x))
  (hk2 : ∀ s w w', St s w → Stay (fun b => W0.heap.size ≤ b) w w' → St s w') (hN : ∀ b, N b → b < W0.heap.size)
  (t : Ty) (vt : Value) (w : World) (s : Nat) (l : Int) (hw : Stay N W0 w) (hst : St s w) (ht : TyVN N w vt t) (hok : headOK t = true) (hRp : ∀ x ∈ t.pairs, R x) (hRf : ∀ x ∈ t.funs, R x) (hs : s + szTs t.pairs + szTs t.funs ≤ M) :
  Calls Tryd.prog 80 #[vt, .int .i64 l, .func (.func k1) #[] lb1, .func (.func k2) #[] lb2] w (WrPost N St (s + szTs t.pairs + szTs t.funs) (wrC l t (t.pairs.map P1) (((List.range (t.funs.length - 1)).map fun i => P2 (t.funs.getD i ty0)) ++ [P1 (t.funs.getD (t.funs.length - 1) ty0)])) w) := by
 obtain ⟨ci0, chi, chz0, chz1, chz2⟩ := info_parts Tryd.infoCC
 have eg1 := F1.enter
 have eg2 := F2.enter
 have hh : 0 ≤ t.pair ∧ t.pair ≤ 2 ∧ 0 ≤ t.fn ∧ t.fn ≤ 2 ∧ (t.pairs.length : Int) = (if t.pair = 1 then 2 else if t.pair = 2 then 1 else 0) ∧ (t.fn ≠ 1 → t.funs.length = 0) ∧ (t.fn = 1 → 1 ≤ t.funs.length ∧ t.funs.length ≤ 9) := by
  have h := hok
  unfold headOK at h
  rw [decide_eq_true_iff] at h
  exact ⟨h.2.2.1, h.2.2.2.1, h.2.2.2.2.1, h.2.2.2.2.2.1, h.2.2.2.2.2.2.2.1, h.2.2.2.2.2.2.2.2⟩
 have hP : hasPr7 t.pair t.pairs.length = decide (t.pair ≠ 0) := by
  obtain ⟨a1, a2, _, _, a5, _⟩ := hh
  unfold hasPr7
  rcases (by omega : t.pair = 0 ∨ t.pair = 1 ∨ t.pair = 2) with e | e | e
  ·
   rw [e]; simp
  ·
   rw [e] at a5 ⊢; simp at a5; simp; omega
  ·
   rw [e] at a5 ⊢; simp at a5; simp; omega
 have hF : hasFr7 t.fn t.funs.length = decide (t.fn ≠ 0) := by
  obtain ⟨_, _, a1, a2, _, a5, a6⟩ := hh
  unfold hasFr7
  rcases (by omega : t.fn = 0 ∨ t.fn = 1 ∨ t.fn = 2) with e | e | e
  ·
   rw [e]; simp
  ·
   have := a6 e; rw [e]; simp; omega
  ·
   rw [e]; simp
 have hlp : t.pairs.length ≤ 100 := by
  obtain ⟨_, _, _, _, a5, _⟩ := hh
  split at a5
  ·
   omega
  ·
   split at a5 <;> omega
 have hnw : ∀ b, N b → b < w.heap.size := fun b hb => Nat.lt_of_lt_of_le (hN b hb) hw.size
 obtain ⟨pa, pc, fa, fc, rfl, hp, hf⟩ := ht.form
 have heach : ∀ w1 s1, Stay N w w1 → St s1 w1 → s1 ≤ s → Calls Tryd.prog 94 #[.slice pa t.pairs.length pc, .func (.func k1) #[] lb1] w1
   fun e w' => (∃ v, e = .returned v ∧ CoS w' (Lc (Old w1.heap.size) w') v (t.pairs.map P1)) ∧ Stay N w1 w' ∧ ∃ s', s' ≤ s + szTs t.pairs ∧ St s' w' := fun w1 s1 h1 h2 h3 => by
  refine (eachr_any F1 hk2 hN t.pairs pa pc w1 s1 (hw.trans h1) h2 (TySN.stay hp h1) hlp fun j s' hj hch => ?_).mono ?_
  ·
   have h4 := chain_szT (by omega) hch
   have h5 := szTs_snoc7 t.pairs j hj
   have h6 := szTs_le7 t.pairs (j + 1)
   exact ⟨hRp _ (getT_mem hj), by omega⟩
  ·
   rintro e w2 ⟨⟨v, he, hc⟩, hs2, s', hch, hv⟩
   have h4 := chain_szT (Nat.le_refl _) hch
   rw [List.take_length] at h4
   exact ⟨⟨v, he, hc.done (fun b h => h) (by rw [List.length_map]; unfold maxLen; omega)⟩, hs2, s', by omega, hv⟩
 obtain ⟨np, hnp⟩ : ∃ n, n = t.pairs.length := ⟨_, rfl⟩
 obtain ⟨nf, hnf⟩ : ∃ n, n = t.funs.length := ⟨_, rfl⟩
 obtain ⟨ps, hps⟩ : ∃ x, x = t.pairs.map P1 := ⟨_, rfl⟩
 have HPL := hid (show ps.length = np by rw [hps, hnp, List.length_map])
 rw [← hnp] at hp heach
 rw [← hnf] at hf
 rw [← hps] at heach ⊢
 have hcP := hasP7_raw t.all t.flat t.pair pa np pc t.fn fa nf fc
 have hcF := hasF7_raw t.all t.flat t.pair pa np pc t.fn fa nf fc
 rw [show hasPr7 t.pair np = decide (t.pair ≠ 0) by rw [hnp]; exact hP] at hcP
 rw [show hasFr7 t.fn nf = decide (t.fn ≠ 0) by rw [hnf]; exact hF] at hcF
 rw [← hnp]
 obtain ⟨fs, hfs⟩ : ∃ x, x = ((List.range (t.funs.length - 1)).map fun i => P2 (t.funs.getD i ty0)) ++ [P1 (t.funs.getD (t.funs.length - 1) ty0)] := ⟨_, rfl⟩
 rw [← hfs, ← hnf]
 have HFS := hid hfs
 have HPF := hid (show (wrC l t ps fs) = .mk ⟨0, 0, 0, 0, 0, 0, (wrP l t ps).1, (wrP l t ps).2.1, (wrF t fs).1, 0⟩ (wrP l t ps).2.2 (wrF t fs).2 from rfl)
 obtain ⟨W, hW⟩ : ∃ W, W = ((w.alloc (.cells #[.bool t.all, .int .i64 t.flat, .int .i64 t.pair, .slice pa np pc, .int .i64 t.fn, .slice fa nf fc] 47)).alloc (.cells #[.int .i64 0, .int .i64 0, .int .i64 0, .int .i64 0, .int .i64 0, .int .i64 0, .int .i64 0, .int .i64 0, .slice none 0 0, .int .i64 0, .int .i64 0, .slice none 0 0] 25)).alloc (.cells #[.int .i64 0, .int .i64 0, .int .i64 0, .int .i64 0, .int .i64 0, .int .i64 0, .int .i64 0, .int .i64 0, .slice none 0 0, .int .i64 0, .int .i64 0, .slice none 0 0] 25) := ⟨_, rfl⟩
 have hb0 : Below w.heap.size w W := by rw [hW]; exact ((bAl _ _).alloc (by simp) _).alloc (by simp; omega) _
 have hsz0 : W.heap.size = w.heap.size + 1 + 1 + 1 := by rw [hW]; simp
 have HX := hid (show BoxAt W w.heap.size t.all t.flat t.pair (.slice pa np pc) t.fn (.slice fa nf fc) by rw [hW]; exact ((BoxAt.made w _ _ _ _ _ _).keep (bAl _ _)).keep (bAl _ _))
 have HR := hid (show CBox W (w.heap.size + 1) 25 ⟨⟨0, 0, 0, 0, 0, 0, 0, 0, 0, 0⟩, .slice none 0 0, .slice none 0 0⟩ by rw [hW]; have := (CBox.made (w.alloc (.cells #[.bool t.all, .int .i64 t.flat, .int .i64 t.pair, .slice pa np pc, .int .i64 t.fn, .slice fa nf fc] 47)) 25 ⟨⟨0, 0, 0, 0, 0, 0, 0, 0, 0, 0⟩, .slice none 0 0, .slice none 0 0⟩).keep ((Below.refl _ _).alloc (Nat.le_refl _) (.cells #[.int .i64 0, .int .i64 0, .int .i64 0, .int .i64 0, .int .i64 0, .int .i64 0, .int .i64 0, .int .i64 0, .slice none 0 0, .int .i64 0, .int .i64 0, .slice none 0 0] 25)); simp only [alloc_hs7] at this; exact this)
 have HC := hid (show CBox W (w.heap.size + 1 + 1) 25 ⟨⟨0, 0, 0, 0, 0, 0, 0, 0, 0, 0⟩, .slice none 0 0, .slice none 0 0⟩ by rw [hW]; have := CBox.made ((w.alloc (.cells #[.bool t.all, .int .i64 t.flat, .int .i64 t.pair, .slice pa np pc, .int .i64 t.fn, .slice fa nf fc] 47)).alloc (.cells #[.int .i64 0, .int .i64 0, .int .i64 0, .int .i64 0, .int .i64 0, .int .i64 0, .int .i64 0, .int .i64 0, .slice none 0 0, .int .i64 0, .int .i64 0, .slice none 0 0] 25)) 25 ⟨⟨0, 0, 0, 0, 0, 0, 0, 0, 0, 0⟩, .slice none 0 0, .slice none 0 0⟩; simp only [alloc_hs7] at this; exact this)
 have HS := hid (Stay.of (N := N) hb0)
 have HST := hid (F1.keep _ _ _ hst hb0)
 have HSZ := hid hsz0
 have HNW := hid hnw
 have HK2 := hid hk2
 have HBW := hid hw.size
 have HE := hid heach
 have HF1 := hid F1
 have HF2 := hid F2
 have HCP := hid hcP
 have HCF := hid hcF
 have HFV := hid hf
 have HN := hid hN
 have HW0 := hid hw
 have HH := hid hh
 have HRF := hid hRf
 have HM := hid hs
 have HNP := hid hnp
 have HNF := hid hnf
 have HW := hid hW
 clear hcP hcF hnp hnf hps hfs hP hF hlp hnw heach F1 F2 hk2 hN hw hst hok hRp hRf hs hp hf hb0 hsz0 hW ht hh
 go_enter Tryd.func80, Tryd.ntmps80
 go_upto_block 0 with fail
 rw [← HW.out]
 clear HW
 go_cut [] from 10 to 47 (fun wx => ∃ (s1 : Nat) (q ql : Int) (qa : Option Addr) (qn qc : Nat), Hid ((q, ql, (wrP l t ps).2.2) = wrP l t ps ∧ qn = (wrP l t ps).2.2.length) ∧ Hid (CBox wx (w.heap.size + 1 + 1) 25 ⟨⟨0, 0, 0, 0, 0, 0, q, ql, 0, 0⟩, .slice qa qn qc, .slice none 0 0⟩) ∧ Hid (CoS wx (Lc (Old (w.heap.size + 1 + 1 + 1)) wx) (.slice qa qn qc) (wrP l t ps).2.2) ∧ Hid (BoxAt wx w.heap.size t.all t.flat t.pair (.slice pa np pc) t.fn (.slice fa nf fc)) ∧ Hid (CBox wx (w.heap.size + 1) 25 ⟨⟨0, 0, 0, 0, 0, 0, 0, 0, 0, 0⟩, .slice none 0 0, .slice none 0 0⟩) ∧ Hid (Stay N w wx) ∧ Hid (St s1 wx ∧ s1 ≤ s + szTs t.pairs))
 case first =>
  have y := True.intro
  clear y
  obtain ⟨x0, x1, x2, x3, x4, x5⟩ := HX.out.cs
  (try dsimp only at x0 x1 x2 x3 x4 x5)
  go_wp2_with fail
  refine (HCP.out W).mono ?_
  rintro e w2 ⟨rfl, hb2⟩
  obtain ⟨zp, hzp⟩ : ∃ z, z = decide (t.pair ≠ 0) := ⟨_, rfl⟩
  rw [← hzp]
  have HZP := hid hzp
  replace HX := hid (HX.out.keep hb2)
  replace HR := hid (HR.out.keep hb2)
  replace HC := hid (HC.out.keep hb2)
  replace HS := hid (HS.out.then hb2)
  replace HST := hid (HF1.out.keep _ _ _ HST.out hb2)
  replace HSZ := hid (show w.heap.size + 1 + 1 + 1 ≤ w2.heap.size by have := HSZ.out; have := hb2.size; omega)
  clear hzp hb2 x0 x1 x2 x3 x4 x5
  by_cases h0 : t.pair = 0
  ·
   have hz : zp = false := by rw [HZP.out]; exact decide_eq_false (fun h => h h0)
   subst hz
   have HWP := hid (show wrP l t ps = (0, 0, []) by unfold wrP; rw [if_pos h0])
   clear h0
   go_wp2
   go_meet
   case rel => exact ⟨s, 0, 0, none, 0, 0, hid (by rw [HWP.out]; exact ⟨rfl, rfl⟩), HC, hid (by rw [HWP.out]; exact .mkNil _ _), HX, HR, HS, hid ⟨HST.out, by omega⟩⟩
  have hz : zp = true := by rw [HZP.out]; exact decide_eq_true h0
  subst hz
  by_cases h2 : t.pair = 2
  ·
   have b2 : (t.pair == 2) = true := by rw [h2]; rfl
   have H02 := hid (And.intro h0 h2)
   clear h0 h2
   have x2 : w2.cell? ⟨w.heap.size, 2, none⟩ = some (.int .i64 t.pair) := HX.out.c2
   have x3 : w2.cell? ⟨w.heap.size, 3, none⟩ = some (.slice pa np pc) := HX.out.c3
   go_wp2_with fail
   refine (HE.out w2 s HS.out HST.out (Nat.le_refl _)).mono ?_
   rintro e w3 ⟨⟨v, rfl, hv⟩, hs3, s3, hs3l, hst3⟩
   obtain ⟨va, vc, rfl⟩ := hv.val
   rw [HPL.out] at hv ⊢
   have HV3 := hid hv
   have HX3 := hid (HX.out.stay hs3 (fun h => by have := HNW.out _ h; omega))
   have HR3 := hid (HR.out.stay hs3 (fun h => by have := HNW.out _ h; omega))
   have HC3 := hid (HC.out.stay hs3 (fun h => by have := HNW.out _ h; omega))
   have HS3 := hid (HS.out.trans hs3)
   have HST3 := hid hst3
   have HSL3 := hid hs3l
   have HLT := hid (show w.heap.size + 1 + 1 + 1 ≤ w2.heap.size from HSZ.out)
   clear hv hs3 hs3l hst3 x2 x3
   by_cases hl : l = 0
   ·
    have bl : (l != 0) = false := by rw [hl]; rfl
    have HL0 := hid hl
    clear hl
    go_wp2_with fail
    have hap := allpass_p ps va vc w3 (by have := CoSN.mono HV3.out (M := NC) fun _ _ h => h.elim; rw [HPL.out]; exact this)
    rw [HPL.out] at hap
    refine hap.mono ?_
    by_cases hz : allC ps = true
    ·
     have HWP := hid (show wrP l t ps = (0, 0, []) by unfold wrP; rw [if_neg H02.out.1, if_pos H02.out.2, if_pos ⟨HL0.out, hz⟩])
     rintro e w4 ⟨rfl, hb4⟩
     rw [hz]
     have HV4 := hid (CoSN.below HV3.out hb4)
     have HX4 := hid (HX3.out.keep hb4)
     have HR4 := hid (HR3.out.keep hb4)
     have HC4 := hid (HC3.out.keep hb4)
     have HS4 := hid (HS3.out.then hb4)
     have HST4 := hid (HF1.out.keep _ _ _ HST3.out hb4)
     clear hb4
     clear hz
     go_wp2
     go_meet
     case rel => exact ⟨s3, 0, 0, none, 0, 0, hid (by rw [HWP.out]; exact ⟨rfl, rfl⟩), HC4, hid (by rw [HWP.out]; exact .mkNil _ _), HX4, HR4, HS4, hid ⟨HST4.out, HSL3.out⟩⟩
    ·
     have hzf : allC ps = false := by simpa using hz
     have HWP := hid (show wrP l t ps = (3, l, ps) by unfold wrP; rw [if_neg H02.out.1, if_pos H02.out.2, if_neg (fun h => hz h.2)])
     rintro e w4 ⟨rfl, hb4⟩
     rw [hzf]
     have HV4 := hid (CoSN.below HV3.out hb4)
     have HX4 := hid (HX3.out.keep hb4)
     have HR4 := hid (HR3.out.keep hb4)
     have HC4 := hid (HC3.out.keep hb4)
     have HS4 := hid (HS3.out.then hb4)
     have HST4 := hid (HF1.out.keep _ _ _ HST3.out hb4)
     clear hb4
     clear hz hzf
     have q6 : w4.cell? ⟨(w.heap.size + 1 + 1), 6, none⟩ = some (.int .i64 0) := HC4.out.c6
     have qf6 : w4.frozen? ⟨(w.heap.size + 1 + 1), 6, none⟩ = false := HC4.out.fr 6
     have q7 : w4.cell? ⟨(w.heap.size + 1 + 1), 7, none⟩ = some (.int .i64 0) := HC4.out.c7
     have qf7 : w4.frozen? ⟨(w.heap.size + 1 + 1), 7, none⟩ = false := HC4.out.fr 7
     have q8 : w4.cell? ⟨(w.heap.size + 1 + 1), 8, none⟩ = some (.slice none 0 0) := HC4.out.c8
     have qf8 : w4.frozen? ⟨(w.heap.size + 1 + 1), 8, none⟩ = false := HC4.out.fr 8
     go_wp2
     go_meet
     case rel =>
      refine ⟨s3, 3, l, va, np, vc, hid ?_, hid (((HC4.out.s6).s7).s8), hid ?_, hid ((BoxAt.off7 (BoxAt.off7 (BoxAt.off7 HX4.out (m := w.heap.size + 1 + 1) (by omega)) (m := w.heap.size + 1 + 1) (by omega)) (m := w.heap.size + 1 + 1) (by omega))), hid ((((HR4.out.other (m := w.heap.size + 1 + 1) (by omega)).other (m := w.heap.size + 1 + 1) (by omega)).other (m := w.heap.size + 1 + 1) (by omega))), hid ((((HS4.out.setG (p := ⟨w.heap.size + 1 + 1, 6, Option.none⟩) (by show w.heap.size ≤ w.heap.size + 1 + 1; omega) (.int .i64 3)).setG (p := ⟨w.heap.size + 1 + 1, 7, Option.none⟩) (by show w.heap.size ≤ w.heap.size + 1 + 1; omega) (.int .i64 l)).setG (p := ⟨w.heap.size + 1 + 1, 8, Option.none⟩) (by show w.heap.size ≤ w.heap.size + 1 + 1; omega) (.slice va np vc))), hid ⟨HK2.out _ _ _ HST4.out ((((Stay.refl (N := fun b => W0.heap.size ≤ b)).set (p := ⟨w.heap.size + 1 + 1, 6, Option.none⟩) (by have := HBW.out; show W0.heap.size ≤ w.heap.size + 1 + 1; omega) (.int .i64 3)).set (p := ⟨w.heap.size + 1 + 1, 7, Option.none⟩) (by have := HBW.out; show W0.heap.size ≤ w.heap.size + 1 + 1; omega) (.int .i64 l)).set (p := ⟨w.heap.size + 1 + 1, 8, Option.none⟩) (by have := HBW.out; show W0.heap.size ≤ w.heap.size + 1 + 1; omega) (.slice va np vc)), HSL3.out⟩⟩
      ·
       rw [HWP.out]; exact ⟨rfl, HPL.out.symm⟩
      ·
       rw [HWP.out]
       exact (CoSN.mono ((CoSN.set (CoSN.set (CoSN.set HV4.out ⟨w.heap.size + 1 + 1, 6, none⟩ (by have := HLT.out; show w.heap.size + 1 + 1 < w2.heap.size; omega) (.int .i64 3)) ⟨w.heap.size + 1 + 1, 7, none⟩ (by have := HLT.out; show w.heap.size + 1 + 1 < w2.heap.size; omega) (.int .i64 l)) ⟨w.heap.size + 1 + 1, 8, none⟩ (by have := HLT.out; show w.heap.size + 1 + 1 < w2.heap.size; omega) (.slice va np vc))) fun b _ h => Nat.lt_of_lt_of_le h HLT.out)
   ·
    have bl : (l != 0) = true := bne_iff_ne.2 hl
    have HWP := hid (show wrP l t ps = (3, l, ps) by unfold wrP; rw [if_neg H02.out.1, if_pos H02.out.2, if_neg (fun h => hl h.1)])
    clear hl
    have q6 : w3.cell? ⟨(w.heap.size + 1 + 1), 6, none⟩ = some (.int .i64 0) := HC3.out.c6
    have qf6 : w3.frozen? ⟨(w.heap.size + 1 + 1), 6, none⟩ = false := HC3.out.fr 6
    have q7 : w3.cell? ⟨(w.heap.size + 1 + 1), 7, none⟩ = some (.int .i64 0) := HC3.out.c7
    have qf7 : w3.frozen? ⟨(w.heap.size + 1 + 1), 7, none⟩ = false := HC3.out.fr 7
    have q8 : w3.cell? ⟨(w.heap.size + 1 + 1), 8, none⟩ = some (.slice none 0 0) := HC3.out.c8
    have qf8 : w3.frozen? ⟨(w.heap.size + 1 + 1), 8, none⟩ = false := HC3.out.fr 8
    go_wp2
    go_meet
    case rel =>
     refine ⟨s3, 3, l, va, np, vc, hid ?_, hid (((HC3.out.s6).s7).s8), hid ?_, hid ((BoxAt.off7 (BoxAt.off7 (BoxAt.off7 HX3.out (m := w.heap.size + 1 + 1) (by omega)) (m := w.heap.size + 1 + 1) (by omega)) (m := w.heap.size + 1 + 1) (by omega))), hid ((((HR3.out.other (m := w.heap.size + 1 + 1) (by omega)).other (m := w.heap.size + 1 + 1) (by omega)).other (m := w.heap.size + 1 + 1) (by omega))), hid ((((HS3.out.setG (p := ⟨w.heap.size + 1 + 1, 6, Option.none⟩) (by show w.heap.size ≤ w.heap.size + 1 + 1; omega) (.int .i64 3)).setG (p := ⟨w.heap.size + 1 + 1, 7, Option.none⟩) (by show w.heap.size ≤ w.heap.size + 1 + 1; omega) (.int .i64 l)).setG (p := ⟨w.heap.size + 1 + 1, 8, Option.none⟩) (by show w.heap.size ≤ w.heap.size + 1 + 1; omega) (.slice va np vc))), hid ⟨HK2.out _ _ _ HST3.out ((((Stay.refl (N := fun b => W0.heap.size ≤ b)).set (p := ⟨w.heap.size + 1 + 1, 6, Option.none⟩) (by have := HBW.out; show W0.heap.size ≤ w.heap.size + 1 + 1; omega) (.int .i64 3)).set (p := ⟨w.heap.size + 1 + 1, 7, Option.none⟩) (by have := HBW.out; show W0.heap.size ≤ w.heap.size + 1 + 1; omega) (.int .i64 l)).set (p := ⟨w.heap.size + 1 + 1, 8, Option.none⟩) (by have := HBW.out; show W0.heap.size ≤ w.heap.size + 1 + 1; omega) (.slice va np vc)), HSL3.out⟩⟩
     ·
      rw [HWP.out]; exact ⟨rfl, HPL.out.symm⟩
     ·
      rw [HWP.out]
      exact (CoSN.mono ((CoSN.set (CoSN.set (CoSN.set HV3.out ⟨w.heap.size + 1 + 1, 6, none⟩ (by have := HLT.out; show w.heap.size + 1 + 1 < w2.heap.size; omega) (.int .i64 3)) ⟨w.heap.size + 1 + 1, 7, none⟩ (by have := HLT.out; show w.heap.size + 1 + 1 < w2.heap.size; omega) (.int .i64 l)) ⟨w.heap.size + 1 + 1, 8, none⟩ (by have := HLT.out; show w.heap.size + 1 + 1 < w2.heap.size; omega) (.slice va np vc))) fun b _ h => Nat.lt_of_lt_of_le h HLT.out)
  have b2 : (t.pair == 2) = false := beq_false_of_ne h2
  have H02 := hid (And.intro h0 h2)
  clear h0 h2
  have x2 : w2.cell? ⟨w.heap.size, 2, none⟩ = some (.int .i64 t.pair) := HX.out.c2
  have x3 : w2.cell? ⟨w.heap.size, 3, none⟩ = some (.slice pa np pc) := HX.out.c3
  go_wp2_with fail
  refine (HE.out w2 s HS.out HST.out (Nat.le_refl _)).mono ?_
  rintro e w3 ⟨⟨v, rfl, hv⟩, hs3, s3, hs3l, hst3⟩
  obtain ⟨va, vc, rfl⟩ := hv.val
  rw [HPL.out] at hv ⊢
  have HV3 := hid hv
  have HX3 := hid (HX.out.stay hs3 (fun h => by have := HNW.out _ h; omega))
  have HR3 := hid (HR.out.stay hs3 (fun h => by have := HNW.out _ h; omega))
  have HC3 := hid (HC.out.stay hs3 (fun h => by have := HNW.out _ h; omega))
  have HS3 := hid (HS.out.trans hs3)
  have HST3 := hid hst3
  have HSL3 := hid hs3l
  have HLT := hid (show w.heap.size + 1 + 1 + 1 ≤ w2.heap.size from HSZ.out)
  clear hv hs3 hs3l hst3 x2 x3
  go_wp2_with fail
  have hap := allpass_p ps va vc w3 (by have := CoSN.mono HV3.out (M := NC) fun _ _ h => h.elim; rw [HPL.out]; exact this)
  rw [HPL.out] at hap
  refine hap.mono ?_
  by_cases hz : allC ps = true
  ·
   have HWP := hid (show wrP l t ps = (0, 0, []) by unfold wrP; rw [if_neg H02.out.1, if_neg H02.out.2, if_pos hz])
   rintro e w4 ⟨rfl, hb4⟩
   rw [hz]
   have HV4 := hid (CoSN.below HV3.out hb4)
   have HX4 := hid (HX3.out.keep hb4)
   have HR4 := hid (HR3.out.keep hb4)
   have HC4 := hid (HC3.out.keep hb4)
   have HS4 := hid (HS3.out.then hb4)
   have HST4 := hid (HF1.out.keep _ _ _ HST3.out hb4)
   clear hb4
   clear hz
   go_wp2
   go_meet
   case rel => exact ⟨s3, 0, 0, none, 0, 0, hid (by rw [HWP.out]; exact ⟨rfl, rfl⟩), HC4, hid (by rw [HWP.out]; exact .mkNil _ _), HX4, HR4, HS4, hid ⟨HST4.out, HSL3.out⟩⟩
  ·
   have hzf : allC ps = false := by simpa using hz
   have HWP := hid (show wrP l t ps = (2, 0, ps) by unfold wrP; rw [if_neg H02.out.1, if_neg H02.out.2, if_neg hz])
   rintro e w4 ⟨rfl, hb4⟩
   rw [hzf]
   have HV4 := hid (CoSN.below HV3.out hb4)
   have HX4 := hid (HX3.out.keep hb4)
   have HR4 := hid (HR3.out.keep hb4)
   have HC4 := hid (HC3.out.keep hb4)
   have HS4 := hid (HS3.out.then hb4)
   have HST4 := hid (HF1.out.keep _ _ _ HST3.out hb4)
   clear hb4
   clear hz hzf
   have q6 : w4.cell? ⟨(w.heap.size + 1 + 1), 6, none⟩ = some (.int .i64 0) := HC4.out.c6
   have qf6 : w4.frozen? ⟨(w.heap.size + 1 + 1), 6, none⟩ = false := HC4.out.fr 6
   have q7 : w4.cell? ⟨(w.heap.size + 1 + 1), 7, none⟩ = some (.int .i64 0) := HC4.out.c7
   have qf7 : w4.frozen? ⟨(w.heap.size + 1 + 1), 7, none⟩ = false := HC4.out.fr 7
   have q8 : w4.cell? ⟨(w.heap.size + 1 + 1), 8, none⟩ = some (.slice none 0 0) := HC4.out.c8
   have qf8 : w4.frozen? ⟨(w.heap.size + 1 + 1), 8, none⟩ = false := HC4.out.fr 8
   go_wp2
   go_meet
   case rel =>
    refine ⟨s3, 2, 0, va, np, vc, hid ?_, hid ((HC4.out.s6).s8), hid ?_, hid ((BoxAt.off7 (BoxAt.off7 HX4.out (m := w.heap.size + 1 + 1) (by omega)) (m := w.heap.size + 1 + 1) (by omega))), hid (((HR4.out.other (m := w.heap.size + 1 + 1) (by omega)).other (m := w.heap.size + 1 + 1) (by omega))), hid (((HS4.out.setG (p := ⟨w.heap.size + 1 + 1, 6, Option.none⟩) (by show w.heap.size ≤ w.heap.size + 1 + 1; omega) (.int .i64 2)).setG (p := ⟨w.heap.size + 1 + 1, 8, Option.none⟩) (by show w.heap.size ≤ w.heap.size + 1 + 1; omega) (.slice va np vc))), hid ⟨HK2.out _ _ _ HST4.out (((Stay.refl (N := fun b => W0.heap.size ≤ b)).set (p := ⟨w.heap.size + 1 + 1, 6, Option.none⟩) (by have := HBW.out; show W0.heap.size ≤ w.heap.size + 1 + 1; omega) (.int .i64 2)).set (p := ⟨w.heap.size + 1 + 1, 8, Option.none⟩) (by have := HBW.out; show W0.heap.size ≤ w.heap.size + 1 + 1; omega) (.slice va np vc)), HSL3.out⟩⟩
    ·
     rw [HWP.out]; exact ⟨rfl, HPL.out.symm⟩
    ·
     rw [HWP.out]
     exact (CoSN.mono ((CoSN.set (CoSN.set HV4.out ⟨w.heap.size + 1 + 1, 6, none⟩ (by have := HLT.out; show w.heap.size + 1 + 1 < w2.heap.size; omega) (.int .i64 2)) ⟨w.heap.size + 1 + 1, 8, none⟩ (by have := HLT.out; show w.heap.size + 1 + 1 < w2.heap.size; omega) (.slice va np vc))) fun b _ h => Nat.lt_of_lt_of_le h HLT.out)
 case rest =>
  obtain ⟨s1, q, ql, qa, qn, qc, HQ, HC1, HQS, HX1, HR1, HS1, HST1⟩ := hcut
  obtain ⟨hq1, hq2⟩ := HQ.out
  have HQ1 := hid hq1
  have HQN := hid hq2
  clear hq1 hq2 HQ
  obtain ⟨x0, x1, x2, x3, x4, x5⟩ := HX1.out.cs
  (try dsimp only at x0 x1 x2 x3 x4 x5)
  go_wp2_with fail
  refine (HCF.out wc).mono ?_
  rintro e w2 ⟨rfl, hb2⟩
  have HX2 := hid (HX1.out.keep hb2)
  have HR2 := hid (HR1.out.keep hb2)
  have HC2 := hid (HC1.out.keep hb2)
  have HS2 := hid (HS1.out.then hb2)
  have HST2 := hid (HF1.out.keep _ _ _ HST1.out.1 hb2)
  have HSL2 := hid HST1.out.2
  have HQS2 := hid (CoSN.below HQS.out hb2)
  have HSZ2 := hid (show w.heap.size + 1 + 1 + 1 ≤ w2.heap.size by have h1 := HC2.out.lt; omega)
  clear hb2 x0 x1 x2 x3 x4 x5 HX1 HR1 HC1 HS1 HST1 HQS
  by_cases h1 : t.fn = 1
  case neg =>
   have HWF := hid (show wrF t fs = (0, []) by unfold wrF; rw [if_neg (fun h => h1 h.1)])
   have b1 : (t.fn == 1) = false := beq_false_of_ne h1
   have HSL20 := hid (show s1 ≤ s + szTs t.pairs + szTs t.funs by have := HSL2.out; omega)
   replace HSL2 := HSL20
   obtain ⟨x0, x1, x2, x3, x4, x5⟩ := HX2.out.cs
   (try dsimp only at x0 x1 x2 x3 x4 x5)
   by_cases h0 : t.fn = 0
   ·
    have b0 : decide (t.fn ≠ 0) = false := decide_eq_false (fun h => h h0)
    rw [b0]
    clear h1 h0 b0
    obtain ⟨y0, y1, y2, y3, y4, y5, y6, y7, y8, y9, y10, y11⟩ := HC2.out.cs
    (try dsimp only at y0 y1 y2 y3 y4 y5 y6 y7 y8 y9 y10 y11)
    obtain ⟨r0, r1, r2, r3, r4, r5, r6, r7, r8, r9, r10, r11⟩ := HR2.out.cs
    (try dsimp only at r0 r1 r2 r3 r4 r5 r6 r7 r8 r9 r10 r11)
    obtain ⟨fr0, fr1, fr2, fr3, fr4, fr5, fr6, fr7, fr8, fr9, fr10, fr11⟩ := HR2.out.frs
    have HVV := hid (show CoVN (Old (w.heap.size + 1 + 1 + 1)) w2 (.agg #[.int .i64 0, .int .i64 0, .int .i64 0, .int .i64 0, .int .i64 0, .int .i64 0, .int .i64 q, .int .i64 ql, .slice qa qn qc, .int .i64 0, .int .i64 0, .slice none 0 0]) (wrC l t ps fs) by
     rw [HPF.out, HWF.out, ← HQ1.out]
     exact CoVN.mk (h := ⟨0, 0, 0, 0, 0, 0, q, ql, 0, 0⟩) HQS2.out (.mkNil _ _))
    go_wp2
    have HPOST := hid (show WrPost N St (s + szTs t.pairs + szTs t.funs) (wrC l t ps fs) w (.returned (coV ⟨⟨0, 0, 0, 0, 0, 0, q, ql, 0, 0⟩, .slice qa qn qc, .slice none 0 0⟩)) (set12 (w2) (w.heap.size + 1) ⟨⟨0, 0, 0, 0, 0, 0, q, ql, 0, 0⟩, .slice qa qn qc, .slice none 0 0⟩) from WrPost.cell HK2.out HBW.out HVV.out (by omega) (by omega) HS2.out HSL2.out HST2.out)
    refine ret12 (w2) (w.heap.size + 1) ⟨⟨0, 0, 0, 0, 0, 0, q, ql, 0, 0⟩, .slice qa qn qc, .slice none 0 0⟩ (HR2.out) HPOST.out (fun wf hb => ?_) rfl
    obtain ⟨z0, z1, z2, z3, z4, z5, z6, z7, z8, z9, z10, z11⟩ := hb.cs
    simp [results, Tryd.results80, go_sem, coV, z0, z1, z2, z3, z4, z5, z6, z7, z8, z9, z10, z11]
   ·
    have b0 : decide (t.fn ≠ 0) = true := decide_eq_true h0
    rw [b0]
    clear h1 h0 b0
    obtain ⟨y0, y1, y2, y3, y4, y5, y6, y7, y8, y9, y10, y11⟩ := HC2.out.cs
    (try dsimp only at y0 y1 y2 y3 y4 y5 y6 y7 y8 y9 y10 y11)
    obtain ⟨r0, r1, r2, r3, r4, r5, r6, r7, r8, r9, r10, r11⟩ := HR2.out.cs
    (try dsimp only at r0 r1 r2 r3 r4 r5 r6 r7 r8 r9 r10 r11)
    obtain ⟨fr0, fr1, fr2, fr3, fr4, fr5, fr6, fr7, fr8, fr9, fr10, fr11⟩ := HR2.out.frs
    have HVV := hid (show CoVN (Old (w.heap.size + 1 + 1 + 1)) w2 (.agg #[.int .i64 0, .int .i64 0, .int .i64 0, .int .i64 0, .int .i64 0, .int .i64 0, .int .i64 q, .int .i64 ql, .slice qa qn qc, .int .i64 0, .int .i64 0, .slice none 0 0]) (wrC l t ps fs) by
     rw [HPF.out, HWF.out, ← HQ1.out]
     exact CoVN.mk (h := ⟨0, 0, 0, 0, 0, 0, q, ql, 0, 0⟩) HQS2.out (.mkNil _ _))
    go_wp2
    have HPOST := hid (show WrPost N St (s + szTs t.pairs + szTs t.funs) (wrC l t ps fs) w (.returned (coV ⟨⟨0, 0, 0, 0, 0, 0, q, ql, 0, 0⟩, .slice qa qn qc, .slice none 0 0⟩)) (set12 (w2) (w.heap.size + 1) ⟨⟨0, 0, 0, 0, 0, 0, q, ql, 0, 0⟩, .slice qa qn qc, .slice none 0 0⟩) from WrPost.cell HK2.out HBW.out HVV.out (by omega) (by omega) HS2.out HSL2.out HST2.out)
    refine ret12 (w2) (w.heap.size + 1) ⟨⟨0, 0, 0, 0, 0, 0, q, ql, 0, 0⟩, .slice qa qn qc, .slice none 0 0⟩ (HR2.out) HPOST.out (fun wf hb => ?_) rfl
    obtain ⟨z0, z1, z2, z3, z4, z5, z6, z7, z8, z9, z10, z11⟩ := hb.cs
    simp [results, Tryd.results80, go_sem, coV, z0, z1, z2, z3, z4, z5, z6, z7, z8, z9, z10, z11]
  have b1 : (t.fn == 1) = true := by rw [h1]; rfl
  have b0 : decide (t.fn ≠ 0) = true := decide_eq_true (by omega)
  rw [b0]
  have hnf1 := HH.out.2.2.2.2.2.2 h1
  obtain ⟨m, hm⟩ : ∃ m, nf = m + 1 := ⟨nf - 1, by rw [HNF.out]; omega⟩
  subst hm
  have hm9 : (m : Int) ≤ 8 := by have := HNF.out; omega
  have HFN := hid h1
  have HML := hid (show m < t.funs.length by rw [← HNF.out]; omega)
  obtain ⟨d, hd⟩ : ∃ d, t.funs.getD m ty0 = d := ⟨_, rfl⟩
  obtain ⟨b, off, p1, c1, p2, c2, rfl, hb', e0, e1, e2, e3, e4, e5, hvd⟩ := TySN.elem HFV.out HML.out hd
  obtain ⟨b', off', _, heq, hlo, _, _⟩ := TyS.at HFV.out HML.out
  cases heq
  have HKS := hid (show ∀ wx, Stay N w wx → BoxAt wx w.heap.size t.all t.flat t.pair (.slice pa np pc) t.fn (.slice (some ⟨b, off, none⟩) (m + 1) fc) → (fun w' => w'.cell? ⟨w.heap.size, 5, none⟩ = some (.slice (some ⟨b, off, none⟩) (m + 1) fc) ∧ w'.cell? ⟨b, off + m * 6, none⟩ = some (.bool d.all) ∧ w'.cell? ⟨b, off + m * 6 + 1, none⟩ = some (.int .i64 d.flat) ∧ w'.cell? ⟨b, off + m * 6 + 2, none⟩ = some (.int .i64 d.pair) ∧ w'.cell? ⟨b, off + m * 6 + 3, none⟩ = some (.slice p1 d.pairs.length c1) ∧ w'.cell? ⟨b, off + m * 6 + 4, none⟩ = some (.int .i64 d.fn) ∧ w'.cell? ⟨b, off + m * 6 + 5, none⟩ = some (.slice p2 d.funs.length c2)) wx from fun wx hs hx => ⟨hx.c5, (hs.cell (p := ⟨b, off + m * 6, none⟩) hlo.1 hlo.2).trans e0, (hs.cell (p := ⟨b, off + m * 6 + 1, none⟩) hlo.1 hlo.2).trans e1, (hs.cell (p := ⟨b, off + m * 6 + 2, none⟩) hlo.1 hlo.2).trans e2, (hs.cell (p := ⟨b, off + m * 6 + 3, none⟩) hlo.1 hlo.2).trans e3, (hs.cell (p := ⟨b, off + m * 6 + 4, none⟩) hlo.1 hlo.2).trans e4, (hs.cell (p := ⟨b, off + m * 6 + 5, none⟩) hlo.1 hlo.2).trans e5⟩)
  have HD5 := hid (fun wx (hs : Stay N w wx) => hvd.stay hs)
  have HMD := hid (show szTs (t.funs.take m) + szT d ≤ szTs t.funs ∧ s + szTs t.pairs + szTs t.funs ≤ M by have h2 := szTs_snoc7 t.funs m HML.out; have h3 := szTs_le7 t.funs (m + 1); rw [hd] at h2; exact ⟨by omega, HM.out⟩)
  have HRD := hid (show R d by rw [← hd]; exact HRF.out _ (getT_mem HML.out))
  have HFSM := hid (show fs = (t.funs.take m).map P2 ++ [P1 d] by rw [HFS.out, ← HNF.out, Nat.add_sub_cancel, hd, map_take7 P2 t.funs m (Nat.le_of_lt HML.out)])
  have HTL2 := hid (show ((t.funs.take m).map P2).length = m by rw [List.length_map, List.length_take]; have := HML.out; omega)
  have HTL := HTL2
  have HFSL := hid (show fs.length = m + 1 by rw [HFSM.out, List.length_append, HTL2.out]; rfl)
  have HE2 := hid (show ∀ w1 s1, Stay N w w1 → St s1 w1 → s1 ≤ s + szTs t.pairs → Calls Tryd.prog 94 #[.slice (some ⟨b, off, none⟩) m fc, .func (.func k2) #[] lb2] w1
     fun e w' => (∃ v, e = .returned v ∧ RowC 25 (Old w1.heap.size) w1.heap.size w' v ((t.funs.take m).map P2)) ∧ Stay N w1 w' ∧ ∃ s', s' ≤ s + szTs t.pairs + szTs (t.funs.take m) ∧ St s' w' from fun w1 s1 g1 g2 g3 => by
    have hln : (t.funs.take m).length = m := by rw [List.length_take]; have := HML.out; omega
    have hC := eachr_any HF2.out HK2.out HN.out (t.funs.take m) (some ⟨b, off, none⟩) fc w1 s1 (HW0.out.trans g1) g2 (by rw [hln]; exact TyS.take7 (TySN.stay HFV.out g1) m (Nat.le_of_lt HML.out)) (by rw [hln]; omega) (fun j s' hj hch => by
     have h4 := chain_szT (by omega) hch
     have h5 := szTs_snoc7 (t.funs.take m) j hj
     have h6 := szTs_le7 (t.funs.take m) (j + 1)
     have h7 := HMD.out
     exact ⟨HRF.out _ (List.mem_of_mem_take (getT_mem hj)), by omega⟩)
    rw [hln] at hC
    refine hC.mono ?_
    rintro e w2 ⟨hv, hs2, s', hch, hv2⟩
    have h4 := chain_szT (by rw [hln]; exact Nat.le_refl _) hch
    have h6 := szTs_le7 (t.funs.take m) m
    exact ⟨hv, hs2, s', by omega, hv2⟩)
  have hmi : (m : Int) < (m : Int) + 1 := by omega
  have hmc : m ≤ fc := by have h := HFV.out.room; have := HML.out; omega
  clear hd h1 hnf1 hb' hvd hlo e0 e1 e2 e3 e4 e5 b0
  obtain ⟨s2, hs2e⟩ : ∃ x, x = s1 := ⟨_, rfl⟩
  rw [← hs2e] at HST2 HSL2
  clear hs2e
  obtain ⟨x0, x1, x2, x3, x4, x5⟩ := HX2.out.cs
  (try dsimp only at x0 x1 x2 x3 x4 x5)
  go_upto_region 12 with fail
  clear x0 x1 x2 x3 x4 x5
  (try dsimp only [List.append])
  refine wp_region_noPanic ?_
  refine wp_region_held_drew (S := (fun w' => w'.cell? ⟨w.heap.size, 5, none⟩ = some (.slice (some ⟨b, off, none⟩) (m + 1) fc) ∧ w'.cell? ⟨b, off + m * 6, none⟩ = some (.bool d.all) ∧ w'.cell? ⟨b, off + m * 6 + 1, none⟩ = some (.int .i64 d.flat) ∧ w'.cell? ⟨b, off + m * 6 + 2, none⟩ = some (.int .i64 d.pair) ∧ w'.cell? ⟨b, off + m * 6 + 3, none⟩ = some (.slice p1 d.pairs.length c1) ∧ w'.cell? ⟨b, off + m * 6 + 4, none⟩ = some (.int .i64 d.fn) ∧ w'.cell? ⟨b, off + m * 6 + 5, none⟩ = some (.slice p2 d.funs.length c2))) (by kernel_rfl) (by (try dsimp only); exact HKS.out _ (HS2.out.then (Below.refl _ _).drew) (HX2.out.keep (Below.refl _ _).drew)) (fun hHeld => ?_)
  have hdr : Below w2.heap.size w2 w2.drew := (Below.refl _ _).drew
  have HSD := hid (HS2.out.then hdr)
  have HXD := hid (HX2.out.keep hdr)
  have HSTD := hid (HF1.out.keep _ _ _ HST2.out hdr)
  have HSLD := hid HSL2.out
  have HDZ := hid (show w.heap.size + 1 + 1 + 1 ≤ w2.drew.heap.size from Nat.le_trans HSZ2.out hdr.size)
  have HDD := hid hdr
  clear hdr
  generalize w2.drew = wd at hHeld HSD HXD HSTD HDZ HDD ⊢
  refine' tk_q 0 59 hHeld ?hi0 ?hr0
  case hi0 => (refine ⟨_, rfl, rfl, rfl, fun w hSw => ?_⟩; (try dsimp only at hSw); go_simp; (try with_reducible rfl))
  (try simp only [pq1, ls0, ls1])
  refine' tk_q 1 60 hHeld ?hi1 ?hr1
  case hi1 => (refine ⟨_, rfl, rfl, rfl, fun w hSw => ?_⟩; (try dsimp only at hSw); go_simp; (try with_reducible rfl))
  (try simp only [pq1, ls0, ls1])
  refine' tk_q 2 61 hHeld ?hi2 ?hr2
  case hi2 => (refine ⟨_, rfl, rfl, rfl, fun w hSw => ?_⟩; (try dsimp only at hSw); go_simp; (try with_reducible rfl))
  (try simp only [pq1, ls0, ls1])
  refine' tk_q 3 62 hHeld ?hi3 ?hr3
  case hi3 => (refine ⟨_, rfl, rfl, rfl, fun w hSw => ?_⟩; (try dsimp only at hSw); go_simp; (try with_reducible rfl))
  (try simp only [pq1, ls0, ls1])
  refine' tk_q 4 63 hHeld ?hi4 ?hr4
  case hi4 => (refine ⟨_, rfl, rfl, rfl, fun w hSw => ?_⟩; (try dsimp only at hSw); go_simp; (try with_reducible rfl))
  (try simp only [pq1, ls0, ls1])
  refine' tk_q 6 65 hHeld ?hi5 ?hr5
  case hi5 => (refine ⟨_, rfl, rfl, rfl, fun w hSw => ?_⟩; (try dsimp only at hSw); go_simp; (try with_reducible rfl))
  (try simp only [pq1, ls0, ls1])
  refine' tk_q 7 66 hHeld ?hi6 ?hr6
  case hi6 => (refine ⟨_, rfl, rfl, rfl, fun w hSw => ?_⟩; (try dsimp only at hSw); go_simp; (try with_reducible rfl))
  (try simp only [pq1, ls0, ls1])
  refine' tk_q 8 67 hHeld ?hi7 ?hr7
  case hi7 => (refine ⟨_, rfl, rfl, rfl, fun w hSw => ?_⟩; (try dsimp only at hSw); go_simp; (try with_reducible rfl))
  (try simp only [pq1, ls0, ls1])
  refine' tk_q 9 68 hHeld ?hi8 ?hr8
  case hi8 => (refine ⟨_, rfl, rfl, rfl, fun w hSw => ?_⟩; (try dsimp only at hSw); go_simp; (try with_reducible rfl))
  (try simp only [pq1, ls0, ls1])
  refine' tk_q 10 69 hHeld ?hi9 ?hr9
  case hi9 => (refine ⟨_, rfl, rfl, rfl, fun w hSw => ?_⟩; (try dsimp only at hSw); go_simp; (try with_reducible rfl))
  (try simp only [pq1, ls0, ls1])
  refine' tk_q 11 70 hHeld ?hia ?hra
  case hia => (refine ⟨_, rfl, rfl, rfl, fun w hSw => ?_⟩; (try dsimp only at hSw); go_simp; (try with_reducible rfl))
  (try simp only [pq1, ls0, ls1])
  refine' tk_call 5 ?hib (by kernel_rfl) ?hrb
  case hib => rfl
  intro K hK
  go_simp
  go_at_call 94
  refine (HE2.out wd s2 HSD.out HSTD.out HSLD.out).mono ?_
  rintro e w5 ⟨⟨v, rfl, hv⟩, hs5, s5, hs5l, hst5⟩
  obtain ⟨ra, rc, rfl⟩ := hv.val
  rw [HTL.out] at hv ⊢
  have HV5 := hid hv
  have HS5 := hid (HSD.out.trans hs5)
  have HX5 := hid (HXD.out.stay hs5 (fun h => by have := HNW.out _ h; omega))
  have HST5 := hid hst5
  have HSL5 := hid hs5l
  have HSZ5 := hid hs5.size
  have HS55 := hid hs5
  clear hv hs5 hs5l hst5
  go_wp2_with fail
  clear hHeld
  refine hK.out _ _ (by (try dsimp only); exact HKS.out _ HS5.out HX5.out) (fun hHeld => ?_)
  clear hK K
  (try simp only [pq1, ls0, ls1])
  refine' tk_call 12 ?hic (by kernel_rfl) ?hrc
  case hic => rfl
  intro K hK
  go_simp
  go_at_fn k1
  refine (HF1.out.call w5 _ d s5 (HW0.out.trans HS5.out) HST5.out ⟨HRD.out, by have := HSL5.out; have := HMD.out; omega⟩ (HD5.out w5 HS5.out)).mono ?_
  rintro e w6 ⟨⟨v, rfl, hv⟩, hs6, s6, hs6l, hst6⟩
  obtain ⟨u, hu⟩ : ∃ u, u = P1 d := ⟨_, rfl⟩
  rw [← hu] at hv
  obtain ⟨u1, u2, u3, u4, rfl, _, _⟩ := hv.form
  have HU6 := hid (CoVN.raw (h := u.h) hv)
  have HUU := hid hu
  have HS6 := hid (HS5.out.trans hs6)
  have HX6 := hid (HX5.out.stay hs6 (fun h => by have := HNW.out _ h; omega))
  have HST6 := hid hst6
  have HSL6 := hid hs6l
  have HV6 := hid (RowC.stay7 HV5.out hs6 (fun b hb => by have := HNW.out _ hb; have := HDZ.out; omega))
  have HSZ6 := hid hs6.size
  have HOW := hid HV5.out.lt
  have HS66 := hid hs6
  clear hu hv hs6 hs6l hst6
  go_wp2_with fail
  clear hHeld
  refine hK.out _ _ (by (try dsimp only); exact HKS.out _ HS6.out HX6.out) (fun hHeld => ?_)
  clear hK K
  (try simp only [pq1, ls0, ls1])
  refine' tk_call 13 ?hid (by kernel_rfl) ?hrd
  case hid => rfl
  intro K hK
  go_simp
  obtain ⟨wA, hwA⟩ : ∃ wA : World, wA = w6.alloc (.cells #[.int .i64 u.h.f0, .int .i64 u.h.f1, .int .i64 u.h.f2, .int .i64 u.h.f3, .int .i64 u.h.f4, .int .i64 u.h.f5, .int .i64 u.h.pair, .int .i64 u.h.pl, .slice u1 u.pairs.length u2, .int .i64 u.h.fn, .int .i64 u.h.fl, .slice u3 u.funs.length u4] 25) := ⟨_, rfl⟩
  rw [← hwA]
  have hAB : Below w6.heap.size w6 wA := by rw [hwA]; exact bAl _ _
  have HNB := hid (show wA.heap[w6.heap.size]? = some (.cells #[.int .i64 u.h.f0, .int .i64 u.h.f1, .int .i64 u.h.f2, .int .i64 u.h.f3, .int .i64 u.h.f4, .int .i64 u.h.f5, .int .i64 u.h.pair, .int .i64 u.h.pl, .slice u1 u.pairs.length u2, .int .i64 u.h.fn, .int .i64 u.h.fl, .slice u3 u.funs.length u4] 25 (0, 0)) by rw [hwA]; exact heap_alloc_new _ _)
  obtain ⟨rs, hown, hraw⟩ := HV6.out
  rw [HTL2.out] at hown
  have HOA := hid (show wA.ownsRow wd.heap.size 25 12 (.slice ra m rc) m (cosCells rs) by rw [hwA]; exact hown.alloc _)
  have HRAW := hid hraw
  have HWA := hid hwA
  have HW1 := hid (show wd.heap.size ≤ wA.heap.size from Nat.le_trans HSZ5.out (Nat.le_trans HSZ6.out hAB.size))
  have HAB := hid hAB
  have HSA := hid (HS6.out.then hAB)
  have HXA := hid (HX6.out.keep hAB)
  clear hAB hwA hown hraw
  clear hHeld
  refine hK.out _ _ (by (try dsimp only); exact HKS.out _ HSA.out HXA.out) (fun hHeld => ?_)
  clear hK K
  (try simp only [pq1, ls0, ls1])
  refine' tk_call 14 ?hie (by kernel_rfl) ?hre
  case hie => rfl
  intro K hK
  refine step_append_lies _ (by rfl) _ _ _ (by rfl) wd.heap.size 25 ci0 _ 12 128 Tryd.underlying23 chi chz0 chz1 chz2 rfl (by omega) (.slice ra m rc) m (cosCells rs) (by rfl) HOA.out ⟨w6.heap.size, 0, none⟩ 1 1 [.int .i64 u.h.f0, .int .i64 u.h.f1, .int .i64 u.h.f2, .int .i64 u.h.f3, .int .i64 u.h.f4, .int .i64 u.h.f5, .int .i64 u.h.pair, .int .i64 u.h.pl, .slice u1 u.pairs.length u2, .int .i64 u.h.fn, .int .i64 u.h.fl, .slice u3 u.funs.length u4] (by rfl) (by rfl) (World.news_of_block (cs := #[.int .i64 u.h.f0, .int .i64 u.h.f1, .int .i64 u.h.f2, .int .i64 u.h.f3, .int .i64 u.h.f4, .int .i64 u.h.f5, .int .i64 u.h.pair, .int .i64 u.h.pl, .slice u1 u.pairs.length u2, .int .i64 u.h.fn, .int .i64 u.h.fl, .slice u3 u.funs.length u4]) (t := 25) (fr := (0, 0)) HNB.out) (by simp [Value.oneCell']) (by omega) (by unfold maxLen; omega) (by omega) HW1.out wA.heap.size rfl ?_
  intro gg cap w9 hown9 hgrow9 hat9 hlt9
  have hs9 : Stay (fun b => wd.heap.size ≤ b) wA w9 := (Stay.refl (N := fun b => wd.heap.size ≤ b) (a := wA)).grown7 hgrow9 (fun x hx => .inr (HOW.out x hx).1)
  have hs29 : Stay N w2 w9 := ((((Stay.of HDD.out).trans HS55.out).trans HS66.out).then HAB.out).grown7 hgrow9 (fun x hx => .inl (by have h1 := (HOW.out x hx).1; have h2 := HDD.out.size; omega))
  have hrow9 : RowC 25 (Old wd.heap.size) wd.heap.size w9 (.slice (some ⟨gg, 0, none⟩) (m + 1) cap) fs := by
   have h2 : RawCo w6 (fun b => Lc (Old wd.heap.size) w6 b ∧ (Value.slice ra m rc).ownBlock ≠ some b) ⟨u.h, .slice u1 u.pairs.length u2, .slice u3 u.funs.length u4⟩ u := HU6.out.mono (fun b h => ⟨⟨h.1, fun ho => h.2 (Nat.lt_of_lt_of_le ho HSZ5.out)⟩, fun e => h.2 (HOW.out b e).2⟩) fun _ _ _ => rfl
   have h1 := HRAW.out
   have hg9 := hgrow9
   rw [HWA.out] at hg9
   have hl9 : (Value.slice ra m rc).ownBlock = some gg ∨ gg = w6.heap.size + 1 := hat9.imp id fun h => by rw [h, HWA.out]; simp
   have hlen := HTL2.out
   have h3 := rowc_push (l := (t.funs.take m).map P2) (cap := cap) h1 h2 hg9 hl9 (by rw [hlen]; exact hown9)
   rw [hlen] at h3
   rw [HFSM.out, ← HUU.out]; exact h3
  have HROW9 := hid hrow9
  have HS29 := hid hs29
  have HS9 := hid (HS2.out.trans hs29)
  have HX9 := hid (HX2.out.stay hs29 (fun h => by have := HNW.out _ h; omega))
  have HS99 := hid hs9
  clear hrow9 hs29 hs9 hown9 hgrow9 hat9 hlt9
  clear hHeld
  refine hK.out _ _ (by (try dsimp only); exact HKS.out _ HS9.out HX9.out) (fun hHeld => ?_)
  clear hK K
  (try simp only [pq1, ls0, ls1])
  refine' tk_q 15 13 hHeld ?hif ?hrf
  case hif => (refine ⟨_, rfl, rfl, rfl, fun w hSw => ?_⟩; (try dsimp only at hSw); go_simp; (try with_reducible rfl))
  (try simp only [pq1, ls0, ls1])
  refine wpAnyH_done (by kernel_rfl) ?_ _
  refine NoPanic.normal ?_
  have HC9 := hid (HC2.out.stay HS29.out (fun h => by have := HNW.out _ h; omega))
  have HR9 := hid (HR2.out.stay HS29.out (fun h => by have := HNW.out _ h; omega))
  have HQS9 := hid (CoSN.stay HQS2.out (HS29.out.up (M := Old (w.heap.size + 1 + 1 + 1)) fun b hb => by have := HNW.out _ hb; show b < _; omega))
  have HST9 := hid (HK2.out _ _ _ (HF1.out.keep _ _ _ HST6.out HAB.out) (HS99.out.up fun b hb => by have h1 := HDZ.out; have h2 := HBW.out; have h3 : wd.heap.size ≤ b := hb; show W0.heap.size ≤ b; omega))
  have HSL9 := hid (show s6 ≤ s + szTs t.pairs + szTs t.funs by have := HSL6.out; have := HSL5.out; have := HMD.out; omega)
  have HF9 := hid (CoSN.mono (M := Old (w.heap.size + 1 + 1 + 1)) (HROW9.out.done (fun b h => h) (by rw [HFSL.out]; unfold maxLen; omega)) fun b _ hb => by have h1 := HDZ.out; have h2 : b < w.heap.size + 1 + 1 + 1 := hb; show b < wd.heap.size; omega)
  clear HS29 HS99 HAB HDD HS55 HS66 HROW9 HV5 HV6 HXA HSA HRAW HOA HNB HU6
  have hap := allpass_p fs (some ⟨gg, 0, none⟩) cap w9 (by have := CoSN.mono HF9.out (M := NC) fun _ _ h => h.elim; rw [HFSL.out]; exact this)
  rw [HFSL.out] at hap
  have HAP := hid hap
  clear hap
  go_wp2_with fail
  refine HAP.out.mono ?_
  by_cases hz : allC fs = true
  ·
   have HWF := hid (show wrF t fs = (0, []) by unfold wrF; rw [if_neg (fun h => by rw [hz] at h; exact absurd h.2 (by simp))])
   rintro e wT ⟨rfl, hbT⟩
   rw [hz]
   have HCT := hid (HC9.out.keep hbT)
   have HRT := hid (HR9.out.keep hbT)
   have HQST := hid (CoSN.below HQS9.out hbT)
   have HST0 := hid (HS9.out.then hbT)
   have HSTT := hid (HF1.out.keep _ _ _ HST9.out hbT)
   have HSLT := HSL9
   have HFT := hid (CoSN.below HF9.out hbT)
   have HZZ := hid hz
   clear hbT hz
   obtain ⟨y0, y1, y2, y3, y4, y5, y6, y7, y8, y9, y10, y11⟩ := HCT.out.cs
   (try dsimp only at y0 y1 y2 y3 y4 y5 y6 y7 y8 y9 y10 y11)
   obtain ⟨r0, r1, r2, r3, r4, r5, r6, r7, r8, r9, r10, r11⟩ := HRT.out.cs
   (try dsimp only at r0 r1 r2 r3 r4 r5 r6 r7 r8 r9 r10 r11)
   obtain ⟨fr0, fr1, fr2, fr3, fr4, fr5, fr6, fr7, fr8, fr9, fr10, fr11⟩ := HRT.out.frs
   have HVV := hid (show CoVN (Old (w.heap.size + 1 + 1 + 1)) wT (.agg #[.int .i64 0, .int .i64 0, .int .i64 0, .int .i64 0, .int .i64 0, .int .i64 0, .int .i64 q, .int .i64 ql, .slice qa qn qc, .int .i64 0, .int .i64 0, .slice none 0 0]) (wrC l t ps fs) by
    rw [HPF.out, HWF.out, ← HQ1.out]
    exact CoVN.mk (h := ⟨0, 0, 0, 0, 0, 0, q, ql, 0, 0⟩) HQST.out (.mkNil _ _))
   go_wp2
   have HPOST := hid (show WrPost N St (s + szTs t.pairs + szTs t.funs) (wrC l t ps fs) w (.returned (coV ⟨⟨0, 0, 0, 0, 0, 0, q, ql, 0, 0⟩, .slice qa qn qc, .slice none 0 0⟩)) (set12 (wT) (w.heap.size + 1) ⟨⟨0, 0, 0, 0, 0, 0, q, ql, 0, 0⟩, .slice qa qn qc, .slice none 0 0⟩) from WrPost.cell HK2.out HBW.out HVV.out (by omega) (by omega) HST0.out HSLT.out HSTT.out)
   refine ret12 (wT) (w.heap.size + 1) ⟨⟨0, 0, 0, 0, 0, 0, q, ql, 0, 0⟩, .slice qa qn qc, .slice none 0 0⟩ (HRT.out) HPOST.out (fun wf hb => ?_) rfl
   obtain ⟨z0, z1, z2, z3, z4, z5, z6, z7, z8, z9, z10, z11⟩ := hb.cs
   simp [results, Tryd.results80, go_sem, coV, z0, z1, z2, z3, z4, z5, z6, z7, z8, z9, z10, z11]
  ·
   have hzf : allC fs = false := by simpa using hz
   clear hz
   have hz := hzf
   clear hzf
   have HWF := hid (show wrF t fs = (2, fs) by unfold wrF; rw [if_pos ⟨HFN.out, hz⟩])
   rintro e wT ⟨rfl, hbT⟩
   rw [hz]
   have HCT := hid (HC9.out.keep hbT)
   have HRT := hid (HR9.out.keep hbT)
   have HQST := hid (CoSN.below HQS9.out hbT)
   have HST0 := hid (HS9.out.then hbT)
   have HSTT := hid (HF1.out.keep _ _ _ HST9.out hbT)
   have HSLT := HSL9
   have HFT := hid (CoSN.below HF9.out hbT)
   have HZZ := hid hz
   clear hbT hz
   have q9 : wT.cell? ⟨(w.heap.size + 1 + 1), 9, none⟩ = some (.int .i64 0) := HCT.out.c9
   have qf9 : wT.frozen? ⟨(w.heap.size + 1 + 1), 9, none⟩ = false := HCT.out.fr 9
   have q11 : wT.cell? ⟨(w.heap.size + 1 + 1), 11, none⟩ = some (.slice none 0 0) := HCT.out.c11
   have qf11 : wT.frozen? ⟨(w.heap.size + 1 + 1), 11, none⟩ = false := HCT.out.fr 11
   go_upto_region 15 with fail
   obtain ⟨wz, hwz⟩ : ∃ x, x = (wT.setCell ⟨(w.heap.size + 1 + 1), 9, none⟩ (.int .i64 2)).setCell ⟨(w.heap.size + 1 + 1), 11, none⟩ (.slice (some ⟨gg, 0, none⟩) (m + 1) cap) := ⟨_, rfl⟩
   rw [← hwz]
   have HCZ := hid (show CBox wz (w.heap.size + 1 + 1) 25 ⟨⟨0, 0, 0, 0, 0, 0, q, ql, 2, 0⟩, .slice qa qn qc, .slice (some ⟨gg, 0, none⟩) (m + 1) cap⟩ by rw [hwz]; exact HCT.out.s9.s11)
   have HRZ := hid (show CBox wz (w.heap.size + 1) 25 ⟨⟨0, 0, 0, 0, 0, 0, 0, 0, 0, 0⟩, .slice none 0 0, .slice none 0 0⟩ by rw [hwz]; exact (HRT.out.other (by omega)).other (by omega))
   have HSZ0 := hid (show Stay N w wz by rw [hwz]; exact (HST0.out.setG (p := ⟨(w.heap.size + 1 + 1), 9, Option.none⟩) (by show w.heap.size ≤ w.heap.size + 1 + 1; omega) _).setG (p := ⟨(w.heap.size + 1 + 1), 11, Option.none⟩) (by show w.heap.size ≤ w.heap.size + 1 + 1; omega) _)
   have HQSZ := hid (show CoS wz (Lc (Old (w.heap.size + 1 + 1 + 1)) wz) (.slice qa qn qc) (wrP l t ps).2.2 by rw [hwz]; exact CoSN.set (CoSN.set HQST.out ⟨(w.heap.size + 1 + 1), 9, none⟩ (by show w.heap.size + 1 + 1 < _; omega) _) ⟨(w.heap.size + 1 + 1), 11, none⟩ (by show w.heap.size + 1 + 1 < _; omega) _)
   have HFZ := hid (show CoS wz (Lc (Old (w.heap.size + 1 + 1 + 1)) wz) (.slice (some ⟨gg, 0, none⟩) (m + 1) cap) fs by rw [hwz]; exact CoSN.set (CoSN.set HFT.out ⟨(w.heap.size + 1 + 1), 9, none⟩ (by show w.heap.size + 1 + 1 < _; omega) _) ⟨(w.heap.size + 1 + 1), 11, none⟩ (by show w.heap.size + 1 + 1 < _; omega) _)
   have HSTZ := hid (show St s6 wz by rw [hwz]; exact HK2.out _ _ _ HSTT.out (((Stay.refl (N := fun b => W0.heap.size ≤ b)).set (p := ⟨(w.heap.size + 1 + 1), 9, Option.none⟩) (by have := HBW.out; show W0.heap.size ≤ w.heap.size + 1 + 1; omega) _).set (p := ⟨(w.heap.size + 1 + 1), 11, Option.none⟩) (by have := HBW.out; show W0.heap.size ≤ w.heap.size + 1 + 1; omega) _))
   have HSLZ := HSLT
   clear hwz q9 q11 qf9 qf11
   obtain ⟨y0, y1, y2, y3, y4, y5, y6, y7, y8, y9, y10, y11⟩ := HCZ.out.cs
   (try dsimp only at y0 y1 y2 y3 y4 y5 y6 y7 y8 y9 y10 y11)
   obtain ⟨r0, r1, r2, r3, r4, r5, r6, r7, r8, r9, r10, r11⟩ := HRZ.out.cs
   (try dsimp only at r0 r1 r2 r3 r4 r5 r6 r7 r8 r9 r10 r11)
   obtain ⟨fr0, fr1, fr2, fr3, fr4, fr5, fr6, fr7, fr8, fr9, fr10, fr11⟩ := HRZ.out.frs
   have HVV := hid (show CoVN (Old (w.heap.size + 1 + 1 + 1)) wz (.agg #[.int .i64 0, .int .i64 0, .int .i64 0, .int .i64 0, .int .i64 0, .int .i64 0, .int .i64 q, .int .i64 ql, .slice qa qn qc, .int .i64 2, .int .i64 0, .slice (some ⟨gg, 0, none⟩) (m + 1) cap]) (wrC l t ps fs) by
    rw [HPF.out, HWF.out, ← HQ1.out]
    exact CoVN.mk (h := ⟨0, 0, 0, 0, 0, 0, q, ql, 2, 0⟩) HQSZ.out HFZ.out)
   go_wp2
   have HPOST := hid (show WrPost N St (s + szTs t.pairs + szTs t.funs) (wrC l t ps fs) w (.returned (coV ⟨⟨0, 0, 0, 0, 0, 0, q, ql, 2, 0⟩, .slice qa qn qc, .slice (some ⟨gg, 0, none⟩) (m + 1) cap⟩)) (set12 (wz) (w.heap.size + 1) ⟨⟨0, 0, 0, 0, 0, 0, q, ql, 2, 0⟩, .slice qa qn qc, .slice (some ⟨gg, 0, none⟩) (m + 1) cap⟩) from WrPost.cell HK2.out HBW.out HVV.out (by omega) (by omega) HSZ0.out HSLZ.out HSTZ.out)
   refine ret12 (wz) (w.heap.size + 1) ⟨⟨0, 0, 0, 0, 0, 0, q, ql, 2, 0⟩, .slice qa qn qc, .slice (some ⟨gg, 0, none⟩) (m + 1) cap⟩ (HRZ.out) HPOST.out (fun wf hb => ?_) rfl
   obtain ⟨z0, z1, z2, z3, z4, z5, z6, z7, z8, z9, z10, z11⟩ := hb.cs
   simp [results, Tryd.results80, go_sem, coV, z0, z1, z2, z3, z4, z5, z6, z7, z8, z9, z10, z11]
end Go.Proofs.YtlalnkabfigodaaDoor
