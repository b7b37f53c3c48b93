import Derived.Test.YtlalnkabfigodaaDoorCoCa
import Derived.Maps.AppendAt
import Derived.Deep.RegionHeld3
import Derived.Laws.Pointers
import Derived.OwnWalk
import Derived.StillTactics
import Derived.Lib.SliceRun
namespace Go.Proofs.YtlalnkabfigodaaDoor
open Go.RowKit

/-- all that was is as it was, but for one block -/
structure But (r : Nat) (w w' : World) : Prop where
 os : w'.os = w.os
 tape : w'.tape = w.tape
 output : w'.output = w.output
 size : w.heap.size ≤ w'.heap.size
 block : ∀ k, k < w.heap.size → k ≠ r → w'.heap[k]? = w.heap[k]?
section
variable {r B : Nat} {a b c w w' : World}
theorem But.refl (r : Nat) (w : World) : But r w w := ⟨rfl, rfl, rfl, Nat.le_refl _, fun _ _ _ => rfl⟩
theorem But.then (h : But r a b) (k : Below b.heap.size b c) : But r a c :=
 ⟨k.os.trans h.os, k.tape.trans h.tape, k.output.trans h.output, Nat.le_trans h.size k.size, fun i hi hn => (k.block i (Nat.lt_of_lt_of_le hi h.size)).trans (h.block i hi hn)⟩
theorem But.set (h : But r a b) (i : Nat) (x : Value) : But r a (b.setCell ⟨r, i, none⟩ x) :=
 ⟨h.os, h.tape, h.output, by simpa [World.setCell] using h.size, fun k hk hn => (Below.heap_setCell b ⟨r, i, none⟩ x k hn).trans (h.block k hk hn)⟩
theorem But.grown {g : Option Nat} (h : But r a b) (k : b.grownBy c g) (hg : ∀ x, g = some x → a.heap.size ≤ x) : But r a c :=
 ⟨k.os.trans h.os, k.tape.trans h.tape, k.output.trans h.output, Nat.le_trans h.size k.size, fun i hi hn => (k.block i (Nat.lt_of_lt_of_le hi h.size) (fun e => by have := hg i e.symm; omega)).trans (h.block i hi hn)⟩
theorem But.below (h : But r a b) (hB : B ≤ r) (hs : B ≤ a.heap.size) : Below B a b := ⟨h.os, h.tape, h.output, h.size, fun k hk => h.block k (by omega) (by omega)⟩
theorem But.cell (h : But r a b) {p : Addr} (hp : p.block < a.heap.size) (hn : p.block ≠ r) : b.cell? p = a.cell? p := World.cell?_of_block (w := a) (h.block p.block hp hn)
theorem CBox.but {g : Nat} {T : TypeId} {x : RawC} (h : CBox a g T x) (k : But r a b) (hg : g ≠ r) : CBox b g T x := (k.block g h.lt hg).trans h
theorem CoSN.but {N : Nat → Prop} {v : Value} {l : List Co} (h : CoS a (Lc N a) v l) (k : But r a b) (hr : N r) : CoS b (Lc N b) v l :=
 h.mono (fun _ hb => ⟨Nat.lt_of_lt_of_le hb.1 k.size, hb.2⟩) fun b' o hb => k.cell (p := ⟨b', o, none⟩) hb.1 (fun e => hb.2 (by have e' : b' = r := e; rw [e']; exact hr))
theorem CoVN.but {N : Nat → Prop} {v : Value} {c : Co} (h : CoVN N a v c) (k : But r a b) (hr : N r) : CoVN N b v c := by
 obtain ⟨x, hv, h⟩ := h
 exact ⟨x, hv, h.mono (fun _ hb => ⟨Nat.lt_of_lt_of_le hb.1 k.size, hb.2⟩) fun b' o hb => k.cell (p := ⟨b', o, none⟩) hb.1 (fun e => hb.2 (by have e' : b' = r := e; rw [e']; exact hr))⟩
end
theorem pq0 (a : Act) (v : Value) : a.put none v = a := rfl
theorem pq1 (l : List Value) (ds : List Deferred) (i : Nat) (v : Value) : Act.put ⟨l.toArray, ds⟩ (some i) v = ⟨(l.set i v).toArray, ds⟩ := by simp [Act.put]
theorem ls0 {α : Type} {a b : α} {l : List α} : (a :: l).set 0 b = b :: l := rfl
theorem ls1 {α : Type} {a b : α} {l : List α} {i : Nat} : (a :: l).set (i + 1) b = a :: l.set i b := rfl
theorem bAl (w : World) (o : Obj) : Below w.heap.size w (w.alloc o) := (Below.refl _ _).alloc (Nat.le_refl _) _
theorem tk_any {P : Program} {md : Region.Mode} {ops : Array Oper} {Q : Exit → Act → World → Prop} {S : World → Prop} {fuel : Nat} {listed : Array Bool} {a : Act} {w : World} (i : Nat) (d : Tmp) {oi : Oper} {v : Value} (hi : ops[i]? = some oi) (hd : oi.dst = some d)
  (hs : Region.noSelect ops = true) (hf : Region.free md ops listed i = true) (hr : (Region.ready md ops listed).contains i = true)
  (hQ : ∀ c a w, Q (.panic c) (a.put (some d) v) w → Q (.panic c) a w) (hy : YieldsIf P ops S oi v a) (hS : S w)
  (h : wpAnyH P md ops Q S fuel (listed.setIfInBounds i true) (a.put (some d) v) w) : wpAnyH P md ops Q S (fuel + 1) listed a w := by
 rw [← hd] at h hQ
 exact wpAnyH_take hi hs hf hr hQ hy hS h
/-- a quiet operation -/
theorem tk_q {P : Program} {md : Region.Mode} {ops : Array Oper} {Q : Exit → Act → World → Prop} {S : World → Prop} {fuel : Nat} {listed : Array Bool} {a : Act} {w : World} (i : Nat) (d : Tmp) {v : Value} (hS : S w)
  (hq : ∃ oi, ops[i]? = some oi ∧ oi.dst = some d ∧ Region.wanted oi (yielded ops a.tmps) = true ∧ ∀ w, S w → (execOp a.eval oi).run P w = .ok (.value v) w)
  (h : wpAnyH P md ops Q S fuel (listed.setIfInBounds i true) (a.put (some d) v) w)
  (hs : Region.noSelect ops = true := by kernel_rfl) (hf : Region.free md ops listed i = true := by kernel_rfl) (hr : (Region.ready md ops listed).contains i = true := by kernel_rfl)
  (hQ : ∀ c a w, Q (.panic c) (a.put (some d) v) w → Q (.panic c) a w := by exact fun _ _ _ h => h) : wpAnyH P md ops Q S (fuel + 1) listed a w := by
 obtain ⟨oi, h1, h2, h3, h4⟩ := hq
 exact tk_any i d h1 h2 hs hf hr hQ (.inl ⟨h3, h4⟩) hS h
theorem tk_call {P : Program} {md : Region.Mode} {ops : Array Oper} {Q : Exit → Act → World → Prop} {S : World → Prop} {fuel : Nat} {listed : Array Bool} {a : Act} {w : World} (i : Nat) {o : Oper} (hi : ops[i]? = some o) (hr : Region.ready md ops listed = [i])
  (h : ∀ K' : Act → World → Prop, Shut (∀ a w, S w → (S w → wpAnyH P md ops Q S fuel (listed.setIfInBounds i true) a w) → K' a w) → if Region.wanted o (yielded ops a.tmps) = true then Oper.wp P o a w K' Q else K' (a.put o.dst undef) w) : wpAnyH P md ops Q S (fuel + 1) listed a w :=
 wpAnyH_ready hr (by simp) (AllReadyH.cons hi h AllReadyH.nil)
theorem tk_two {P : Program} {md : Region.Mode} {ops : Array Oper} {Q : Exit → Act → World → Prop} {S : World → Prop} {fuel : Nat} {listed : Array Bool} {a : Act} {w : World} (i j : Nat) {o o' : Oper} (hi : ops[i]? = some o) (hj : ops[j]? = some o') (hr : Region.ready md ops listed = [i, j])
  (h : ∀ K' : Act → World → Prop, Shut (∀ a w, S w → (S w → wpAnyH P md ops Q S fuel (listed.setIfInBounds i true) a w) → K' a w) → if Region.wanted o (yielded ops a.tmps) = true then Oper.wp P o a w K' Q else K' (a.put o.dst undef) w)
  (h' : ∀ K' : Act → World → Prop, Shut (∀ a w, S w → (S w → wpAnyH P md ops Q S fuel (listed.setIfInBounds j true) a w) → K' a w) → if Region.wanted o' (yielded ops a.tmps) = true then Oper.wp P o' a w K' Q else K' (a.put o'.dst undef) w) : wpAnyH P md ops Q S (fuel + 1) listed a w :=
 wpAnyH_ready hr (by simp) (AllReadyH.cons hi h (AllReadyH.cons hj h' AllReadyH.nil))
/-- a world in which all that was is as it was -/
structure SubW (w : World) where
 wx : World
 h : Below w.heap.size w wx
/-- a region that draws its order, that only reads, and whose callees leave all that was as it was: walked once, in the text's order -/
theorem wp_region_sub {P : Program} {id : Nat} {Q : Exit → Act → World → Prop} {a : Act} {w : World} {l : List Oper} (hm : P.follows .mixedOrders = true) (hB : Region.lexB .any l.toArray = true)
  (h : wpQuiet P l.toArray (fun w' => ∃ p : SubW w, w' = p.wx) (fun a' => ∀ w', (∃ p : SubW w, w' = p.wx) → Q .normal a' w') l a) : (Code.region id l.toArray true).wp P Q a w :=
 wp_region_quiet (C := fun w' => ∃ p : SubW w, w' = p.wx) hm hB ⟨⟨w.drew, (Below.refl _ _).drew⟩, rfl⟩ (by simpa using h)
theorem Calls.sub_of {P : Program} {f : FuncId} {args : Array Value} {w : World} {v : Value} (p : SubW w)
  (h : Calls P f args p.wx fun e w' => e = .returned v ∧ Below p.wx.heap.size p.wx w') : Calls P f args p.wx fun e w'' => e = .returned v ∧ ∃ p : SubW w, w'' = p.wx :=
 h.mono fun _ w' ⟨he, hb⟩ => ⟨he, ⟨w', p.h.trans (hb.mono p.h.size)⟩, rfl⟩
theorem SubW.cell {w : World} {b o : Nat} {v : Value} (h : w.cell? ⟨b, o, none⟩ = some v) (hb : b < w.heap.size) : ∀ p : SubW w, p.wx.cell? ⟨b, o, none⟩ = some v := fun p => (p.h.cell (p := ⟨b, o, none⟩) hb).trans h
theorem CoSN.elem2 {N : Nat → Prop} {w : World} {l : List Co} {pa : Option Addr} {n k : Nat} {d : Co} (h : CoS w (Lc N w) (.slice pa n k) l) {j : Nat} (hj : j < l.length) (hd : l.getD j co0 = d) :
  ∃ b off p1 c1 p2 c2, pa = some ⟨b, off, none⟩ ∧ Lc N w b ∧ (w.cell? ⟨b, off + j * 12, none⟩ = some (.int .i64 d.h.f0) ∧ w.cell? ⟨b, off + j * 12 + 1, none⟩ = some (.int .i64 d.h.f1) ∧ w.cell? ⟨b, off + j * 12 + 2, none⟩ = some (.int .i64 d.h.f2) ∧ w.cell? ⟨b, off + j * 12 + 3, none⟩ = some (.int .i64 d.h.f3) ∧ w.cell? ⟨b, off + j * 12 + 4, none⟩ = some (.int .i64 d.h.f4) ∧ w.cell? ⟨b, off + j * 12 + 5, none⟩ = some (.int .i64 d.h.f5) ∧ w.cell? ⟨b, off + j * 12 + 6, none⟩ = some (.int .i64 d.h.pair) ∧ w.cell? ⟨b, off + j * 12 + 7, none⟩ = some (.int .i64 d.h.pl) ∧ w.cell? ⟨b, off + j * 12 + 8, none⟩ = some (.slice p1 d.pairs.length c1) ∧ w.cell? ⟨b, off + j * 12 + 9, none⟩ = some (.int .i64 d.h.fn) ∧ w.cell? ⟨b, off + j * 12 + 10, none⟩ = some (.int .i64 d.h.fl) ∧ w.cell? ⟨b, off + j * 12 + 11, none⟩ = some (.slice p2 d.funs.length c2)) ∧
   CoVN N w (.agg #[.int .i64 d.h.f0, .int .i64 d.h.f1, .int .i64 d.h.f2, .int .i64 d.h.f3, .int .i64 d.h.f4, .int .i64 d.h.f5, .int .i64 d.h.pair, .int .i64 d.h.pl, .slice p1 d.pairs.length c1, .int .i64 d.h.fn, .int .i64 d.h.fl, .slice p2 d.funs.length c2]) d := by
 obtain ⟨b, off, r, hp, hb, hc, hr⟩ := h.at hj
 rw [hd] at hr
 obtain ⟨hh, pv, fv⟩ := r
 obtain ⟨h1, h5, h6⟩ := hr
 simp only at h1 h5 h6
 obtain ⟨p1, c1, rfl⟩ := h5.val
 obtain ⟨p2, c2, rfl⟩ := h6.val
 subst h1
 exact ⟨b, off, p1, c1, p2, c2, hp, hb, ⟨hc 0 (by omega), hc 1 (by omega), hc 2 (by omega), hc 3 (by omega), hc 4 (by omega), hc 5 (by omega), hc 6 (by omega), hc 7 (by omega), hc 8 (by omega), hc 9 (by omega), hc 10 (by omega), hc 11 (by omega)⟩, ⟨⟨d.h, _, _⟩, rfl, rfl, h5, h6⟩⟩
theorem set_blk7 {w : World} {r i b o : Nat} {x v : Value} (hb : b ≠ r) (h : w.cell? ⟨b, o, none⟩ = some v) : (w.setCell ⟨r, i, none⟩ x).cell? ⟨b, o, none⟩ = some v := by
 rw [← h]; exact World.cell?_of_block (Below.heap_setCell _ _ _ _ hb)
theorem RowC.lt {T : TypeId} {N : Nat → Prop} {B : Nat} {w : World} {v : Value} {l : List Co} (h : RowC T N B w v l) : ∀ g, v.ownBlock = some g → B ≤ g ∧ g < w.heap.size := by
 obtain ⟨rs, ho, _⟩ := h
 exact fun g hg => ho.lt g hg
/-- a row of coercions that is stored into its box: all that is wanted for the next round -/
theorem RowC.store {T : TypeId} {N : Nat → Prop} {B r i : Nat} {w : World} {v x : Value} {l : List Co} (h : RowC T N B w v l) (hr : N r) (hB : r < B) : RowC T N B (w.setCell ⟨r, i, none⟩ x) v l := by
 have hlt := h.lt
 obtain ⟨rs, ho, hraw⟩ := h
 refine ⟨rs, ?_, hraw.mono (fun b hb => ⟨⟨by simpa [World.setCell] using hb.1.1, hb.1.2⟩, hb.2⟩) fun b o hb => ?_⟩
 ·
  obtain ⟨h1, h2⟩ := ho
  refine ⟨h1, ?_⟩
  rcases h2 with h2 | ⟨g, cap, cur, hv, hg, hh, rest⟩
  ·
   exact .inl h2
  ·
   refine .inr ⟨g, cap, cur, hv, hg, ?_, rest⟩
   rw [Below.heap_setCell w ⟨r, i, none⟩ x g (by show g ≠ r; omega)]; exact hh
 ·
  have hne : b ≠ r := fun e => hb.1.2 (by rw [e]; exact hr)
  exact World.cell?_of_block (Below.heap_setCell w ⟨r, i, none⟩ x b hne)
end Go.Proofs.YtlalnkabfigodaaDoor
