import Derived.Test.YtfboejdddgedcaaHpW
import Derived.Maps.AppendAt
import Derived.Deep.AppendLies
import Derived.Deep.CutRange
import Derived.Lib.AppendZerosOnto
import Derived.LoopN
import Derived.Deep.RegionHeld3
namespace Go.Proofs.Ytfboejdddgedcaa
open Go.RowKit

theorem Try.infoU : (Try.prog.info? 32).map (fun i => (i.zero, i.size, i.bytes)) = some (some (.int .u64 0), 1, 8) := by kernel_rfl
theorem info_partsU {P : Program} {t : TypeId} {z : Value} {a b : Nat} (h : (P.info? t).map (fun i => (i.zero, i.size, i.bytes)) = some (some z, a, b)) : ∃ i, P.info? t = some i ∧ i.zero = some z ∧ i.size = a ∧ i.bytes = b := by
  cases hi : P.info? t with
  | none => rw [hi] at h; cases h
  | some i =>
    rw [hi] at h
    simp only [Option.map_some, Option.some.injEq, Prod.mk.injEq] at h
    exact ⟨i, rfl, h.1, h.2.1, h.2.2⟩
/-- where words that are to be appended lie -/
def SrcU (w : World) (ad : Option Addr) (m : List Nat) : Prop := (m = [] ∧ ad = none) ∨ ∃ a, ad = some a ∧ ∀ j, j < m.length → w.cell? (a.add j) = some (.int .u64 (m.getD j 0 : Nat))
theorem SrcU.cells {w : World} {a : Addr} {m : List Nat} (h : ∀ j, j < m.length → w.cell? (a.add j) = some (.int .u64 (m.getD j 0 : Nat))) : ∀ j u, (rowU m)[j]? = some u → w.cell? (a.add j) = some u := by
  intro j u hj
  have hlt : j < m.length := by
    have := (List.getElem?_eq_some_iff.1 hj).1
    rwa [rowU_len] at this
  rw [rowU_get m hlt] at hj
  cases hj
  exact h j hlt
/-- words appended to a row of words -/
theorem run_appU (w : World) (ty : TypeId) {v : Value} {l m : List Nat} (h : RowM w v l) {ad : Option Addr} {c : Nat} (src : SrcU w ad m) (hsz : l.length + m.length ≤ 2000000) :
    ∃ v' w', (Builtin.append_ #[31, 31] ty #[v, .slice ad m.length c]).run Try.prog w = .ok v' w' ∧ RowM w' v' (l ++ m) ∧ w.grownBy w' v.ownBlock ∧ (v'.ownBlock = v.ownBlock ∨ v'.ownBlock = some w.heap.size) ∧
      ∀ g c0, v = .slice (some ⟨g, 0, none⟩) l.length c0 → l.length + m.length ≤ c0 → v' = .slice (some ⟨g, 0, none⟩) (l.length + m.length) c0 := by
  obtain ⟨i, hi, hz0, hz1, hz2⟩ := info_partsU Try.infoU
  have ht := Try.underlying31
  rcases src with ⟨rfl, rfl⟩ | ⟨a, rfl, hc⟩
  · refine ⟨v, w, ?_, by rw [List.append_nil]; exact h, ⟨rfl, rfl, rfl, Nat.le_refl _, fun _ _ _ => rfl⟩, .inl rfl, fun g c0 e _ => by rw [e]; simp⟩
    rcases h.2 with ⟨rfl, h0⟩ | ⟨g, cap, cur, rfl, hb, hg, h1, hr⟩
    · simp [Builtin.append_, run_underlying ht, sizeOf, typeInfo, hi, Builtin.lenOf, Builtin.firstCells]
    · simp [Builtin.append_, run_underlying ht, sizeOf, typeInfo, hi, Builtin.lenOf, Builtin.firstCells, h1, storeCells]
  · have hnews := SrcU.cells hc
    have hl : (rowU m).length = m.length * 1 := by rw [rowU_len, Nat.mul_one]
    obtain ⟨v', w', hr, h2, h3, _, h5⟩ := run_append_own_at (P := Try.prog) w 0 31 ty 32 i (.int .u64 0) 1 8 ht hi hz0 hz1 hz2 rfl (by omega) v l.length (rowU l) h a m.length c (rowU m) hl hnews (rowU_one m) (by unfold maxLen; omega) (by omega) (Nat.zero_le _)
    refine ⟨v', w', hr, ?_, h3, h5, fun g c0 e hle => ?_⟩
    · unfold RowM
      rw [List.length_append, rowU_app]
      exact h2
    · subst e
      rcases h.2 with ⟨e, _⟩ | ⟨g', cap, cur, e, hb, hg, h1, hm, hs, ht2⟩
      · cases e
      · cases e
        have hr2 := run_append_room (P := Try.prog) w 31 ty 32 i ht hi g l.length c0 cur hg a m.length c (rowU m) (by rw [hz1]; exact hl) hnews (rowU_one m) hle (by rw [hz1, hl]; omega)
        rw [hr] at hr2
        cases hr2
        rfl
theorem wpl_appU (w : World) {ops : Array Oper} {rest : List Oper} {o : Oper} {a : Act} {Q : Exit → Act → World → Prop} (hgd : o.guard = none) (s x : Operand)
    (ho : o.op = .call { callee := .builtin .append, args := #[s, x], argTypes := #[31, 31] })
    {v : Value} {l m : List Nat} (h : RowM w v l) (hs : a.eval s = v) {ad : Option Addr} {c : Nat} (src : SrcU w ad m) (hx : a.eval x = .slice ad m.length c) (hsz : l.length + m.length ≤ 2000000)
    (hk : ∀ v' w', RowM w' v' (l ++ m) → w.grownBy w' v.ownBlock → (v'.ownBlock = v.ownBlock ∨ v'.ownBlock = some w.heap.size) →
      (∀ g c0, v = .slice (some ⟨g, 0, none⟩) l.length c0 → l.length + m.length ≤ c0 → v' = .slice (some ⟨g, 0, none⟩) (l.length + m.length) c0) → wpList Try.prog ops Q rest (a.put o.dst v') w') : wpList Try.prog ops Q (o :: rest) a w := by
  obtain ⟨v', w', hr, h2, h3, h4, h5⟩ := run_appU w o.type h src hsz
  exact Lib.wpList_append_run w hgd s x _ _ ho v _ hs hx v' w' hr (hk v' w' h2 h3 h4 h5)
theorem step_app_run {P : Program} (w : World) {ops : Array Oper} {o : Oper} {a : Act} {K : Act → World → Prop} {Q : Exit → Act → World → Prop} {E : Prop} (hgd : o.guard = none) (s x : Operand) (t : TypeId)
    (ho : o.op = .call { callee := .builtin .append, args := #[s, x], argTypes := #[t, t] }) (v xv : Value) (hs : a.eval s = v) (hx : a.eval x = xv) (v' : Value) (w' : World)
    (hr : (Builtin.append_ #[t, t] o.type #[v, xv]).run P w = .ok v' w') (hk : K (a.put o.dst v') w') : if Region.wanted o (yielded ops a.tmps) = true then Oper.wp P o a w K Q else E := by
  have hw : Region.wanted o (yielded ops a.tmps) = true := by simp [Region.wanted, hgd]
  rw [if_pos hw]
  unfold Oper.wp execOp
  simp only [ho, resolve, invoke, builtin, Sem.run_bind, Sem.run_pure, Result.andThen_ok, List.map_toArray, List.map_cons, List.map_nil, hs, hx, hr]
  exact hk
theorem step_appU (w : World) {ops : Array Oper} {o : Oper} {a : Act} {K : Act → World → Prop} {Q : Exit → Act → World → Prop} {E : Prop} (hgd : o.guard = none) (s x : Operand)
    (ho : o.op = .call { callee := .builtin .append, args := #[s, x], argTypes := #[31, 31] })
    {v : Value} {l m : List Nat} (h : RowM w v l) (hs : a.eval s = v) {ad : Option Addr} {c : Nat} (src : SrcU w ad m) (hx : a.eval x = .slice ad m.length c) (hsz : l.length + m.length ≤ 2000000)
    (hk : ∀ v' w', RowM w' v' (l ++ m) → w.grownBy w' v.ownBlock → (v'.ownBlock = v.ownBlock ∨ v'.ownBlock = some w.heap.size) →
      (∀ g c0, v = .slice (some ⟨g, 0, none⟩) l.length c0 → l.length + m.length ≤ c0 → v' = .slice (some ⟨g, 0, none⟩) (l.length + m.length) c0) → K (a.put o.dst v') w') :
    if Region.wanted o (yielded ops a.tmps) = true then Oper.wp Try.prog o a w K Q else E := by
  obtain ⟨v', w', hr, h2, h3, h4, h5⟩ := run_appU w o.type h src hsz
  exact step_app_run w hgd s x _ ho v _ hs hx v' w' hr (hk v' w' h2 h3 h4 h5)
theorem arr_set1 (c : Array Value) (f : Nat) (a b x : Value) : ((c.setIfInBounds f a).setIfInBounds (f + 1) b).setIfInBounds f x = (c.setIfInBounds f x).setIfInBounds (f + 1) b := by
  rw [Array.setIfInBounds_comm _ _ (show f + 1 ≠ f by omega), Array.setIfInBounds_setIfInBounds]
theorem arr_set2 (c : Array Value) (f : Nat) (a b x : Value) : ((c.setIfInBounds f a).setIfInBounds (f + 1) b).setIfInBounds (f + 1) x = (c.setIfInBounds f a).setIfInBounds (f + 1) x := by
  rw [Array.setIfInBounds_setIfInBounds]
theorem tk_any {P : Program} {md : Region.Mode} {ops : Array Oper} {Q : Exit → Act → World → Prop} {S : World → Prop} {fuel : Nat} {listed : Array Bool} {a : Act} {w : World} (i : Nat) (d : Tmp) {oi : Oper} {v : Value} (hi : ops[i]? = some oi) (hd : oi.dst = some d)
    (hs : Region.noSelect ops = true) (hf : Region.free md ops listed i = true) (hr : (Region.ready md ops listed).contains i = true)
    (hQ : ∀ c a w, Q (.panic c) (a.put (some d) v) w → Q (.panic c) a w) (hy : YieldsIf P ops S oi v a) (hS : S w)
    (h : wpAnyH P md ops Q S fuel (listed.setIfInBounds i true) (a.put (some d) v) w) : wpAnyH P md ops Q S (fuel + 1) listed a w := by
  rw [← hd] at h hQ
  exact wpAnyH_take hi hs hf hr hQ hy hS h
theorem tk_call {P : Program} {md : Region.Mode} {ops : Array Oper} {Q : Exit → Act → World → Prop} {S : World → Prop} {fuel : Nat} {listed : Array Bool} {a : Act} {w : World} (i : Nat) {o : Oper} (hi : ops[i]? = some o) (hr : Region.ready md ops listed = [i])
    (h : ∀ K' : Act → World → Prop, Shut (∀ a w, S w → (S w → wpAnyH P md ops Q S fuel (listed.setIfInBounds i true) a w) → K' a w) → if Region.wanted o (yielded ops a.tmps) = true then Oper.wp P o a w K' Q else K' (a.put o.dst undef) w) : wpAnyH P md ops Q S (fuel + 1) listed a w :=
  wpAnyH_ready hr (by simp) (AllReadyH.cons hi h AllReadyH.nil)
theorem tk_two {P : Program} {md : Region.Mode} {ops : Array Oper} {Q : Exit → Act → World → Prop} {S : World → Prop} {fuel : Nat} {listed : Array Bool} {a : Act} {w : World} (i j : Nat) {o o' : Oper} (hi : ops[i]? = some o) (hj : ops[j]? = some o') (hr : Region.ready md ops listed = [i, j])
    (h : ∀ K' : Act → World → Prop, Shut (∀ a w, S w → (S w → wpAnyH P md ops Q S fuel (listed.setIfInBounds i true) a w) → K' a w) → if Region.wanted o (yielded ops a.tmps) = true then Oper.wp P o a w K' Q else K' (a.put o.dst undef) w)
    (h' : ∀ K' : Act → World → Prop, Shut (∀ a w, S w → (S w → wpAnyH P md ops Q S fuel (listed.setIfInBounds j true) a w) → K' a w) → if Region.wanted o' (yielded ops a.tmps) = true then Oper.wp P o' a w K' Q else K' (a.put o'.dst undef) w) : wpAnyH P md ops Q S (fuel + 1) listed a w :=
  wpAnyH_ready hr (by simp) (AllReadyH.cons hi h (AllReadyH.cons hj h' AllReadyH.nil))
/-- what is kept when something is added to a space -/
def KpA (hb : Nat) (u v : Value) (j : Nat) : Prop := j ≠ hb ∧ u.ownBlock ≠ some j ∧ v.ownBlock ≠ some j
/-- a space to which something is being added -/
structure AdM (w0 w : World) (hb f : Nat) (cur : Array Value) (T : TypeId) (u0 v0 vw vs : Value) (W S : List Nat) : Prop where
  blk : w.heap[hb]? = some (.cells ((cur.setIfInBounds f vw).setIfInBounds (f + 1) vs) T (0, 0))
  sz : f + 1 < cur.size
  hlt : hb < w0.heap.size
  r1 : RowM w vw W
  r2 : RowM w vs S
  n1 : vw.ownBlock ≠ some hb
  n2 : vs.ownBlock ≠ some hb
  d12 : Dj vw vs
  b1 : ∀ g, vw.ownBlock = some g → u0.ownBlock = some g ∨ w0.heap.size ≤ g
  b2 : ∀ g, vs.ownBlock = some g → v0.ownBlock = some g ∨ w0.heap.size ≤ g
  ked : Ked (KpA hb u0 v0) w0 w
section
variable {w0 w w1 : World} {hb f : Nat} {cur : Array Value} {T : TypeId} {u0 v0 vw vs vw' vs' : Value} {W S W' S' : List Nat}
theorem AdM.c0 (h : AdM w0 w hb f cur T u0 v0 vw vs W S) : w.cell? ⟨hb, f, none⟩ = some vw := by
  rw [Lib.cell_of_heap h.blk f, Array.getElem?_setIfInBounds_ne (by omega), Array.getElem?_setIfInBounds_self]
  rw [if_pos (by have := h.sz; omega)]
theorem AdM.c1 (h : AdM w0 w hb f cur T u0 v0 vw vs W S) : w.cell? ⟨hb, f + 1, none⟩ = some vs := by
  rw [Lib.cell_of_heap h.blk (f + 1), Array.getElem?_setIfInBounds_self]
  rw [if_pos (by have := h.sz; simp; omega)]
theorem AdM.fr (h : AdM w0 w hb f cur T u0 v0 vw vs W S) (j : Nat) : w.frozen? ⟨hb, j, none⟩ = false := Lib.frozen_of_heap h.blk j
theorem AdM.lt (h : AdM w0 w hb f cur T u0 v0 vw vs W S) : hb < w.heap.size := (Array.getElem?_eq_some_iff.1 h.blk).1
theorem AdM.drew (h : AdM w0 w hb f cur T u0 v0 vw vs W S) (d : Nat) : AdM w0 (w.drewN d) hb f cur T u0 v0 vw vs W S :=
  ⟨h.blk, h.sz, h.hlt, h.r1.keep fun _ _ => rfl, h.r2.keep fun _ _ => rfl, h.n1, h.n2, h.d12, h.b1, h.b2, h.ked.trans (Ked.drew _ _ _)⟩
theorem AdM.alloc (h : AdM w0 w hb f cur T u0 v0 vw vs W S) (o : Obj) : AdM w0 (w.alloc o) hb f cur T u0 v0 vw vs W S :=
  ⟨(Below.heap_alloc _ _ _ h.lt).trans h.blk, h.sz, h.hlt, h.r1.keep fun _ hg => Below.heap_alloc _ _ _ (h.r1.lt hg), h.r2.keep fun _ hg => Below.heap_alloc _ _ _ (h.r2.lt hg), h.n1, h.n2, h.d12, h.b1, h.b2, h.ked.alloc o⟩
theorem AdM.start (hblk : w.heap[hb]? = some (.cells cur T (0, 0))) (h0 : cur[f]? = some vw) (h1 : cur[f + 1]? = some vs) (r1 : RowM w vw W) (r2 : RowM w vs S) (n1 : vw.ownBlock ≠ some hb) (n2 : vs.ownBlock ≠ some hb) (d : Dj vw vs) :
    AdM w w hb f cur T vw vs vw vs W S := by
  refine ⟨?_, (Array.getElem?_eq_some_iff.1 h1).1, (Array.getElem?_eq_some_iff.1 hblk).1, r1, r2, n1, n2, d, fun g hg => .inl hg, fun g hg => .inl hg, Ked.refl _ _⟩
  have e1 : cur.setIfInBounds f vw = cur := by
    obtain ⟨hl, he⟩ := Array.getElem?_eq_some_iff.1 h0
    apply Array.ext (by simp)
    intro i hi1 hi2
    rw [Array.getElem_setIfInBounds]
    split
    · rename_i e; subst e; exact he.symm
    · rfl
  have e2 : cur.setIfInBounds (f + 1) vs = cur := by
    obtain ⟨hl, he⟩ := Array.getElem?_eq_some_iff.1 h1
    apply Array.ext (by simp)
    intro i hi1 hi2
    rw [Array.getElem_setIfInBounds]
    split
    · rename_i e; subst e; exact he.symm
    · rfl
  rw [e1, e2]; exact hblk
/-- the words appended, and the slice stored -/
theorem AdM.app1 (h : AdM w0 w hb f cur T u0 v0 vw vs W S) (hr : RowM w1 vw' W') (hg : w.grownBy w1 vw.ownBlock) (ho : vw'.ownBlock = vw.ownBlock ∨ vw'.ownBlock = some w.heap.size) :
    AdM w0 (w1.setCell ⟨hb, f, none⟩ vw') hb f cur T u0 v0 vw' vs W' S := by
  have hn : vw'.ownBlock ≠ some hb := by
    rcases ho with e | e
    · rw [e]; exact h.n1
    · rw [e]; intro e2; have := h.lt; cases e2; omega
  have hd : Dj vw' vs := by
    intro g hg1 hg2
    rcases ho with e | e
    · rw [e] at hg1; exact h.d12 g hg1 hg2
    · rw [e] at hg1; cases hg1; have := h.r2.lt hg2; omega
  have hb1 : w1.heap[hb]? = some (.cells ((cur.setIfInBounds f vw).setIfInBounds (f + 1) vs) T (0, 0)) := (hg.block hb h.lt (fun e => h.n1 e.symm)).trans h.blk
  refine ⟨?_, h.sz, h.hlt, hr.keep fun g hg1 => heap_setCell_other _ _ _ _ (fun e => hn (by rw [hg1]; exact congrArg some e)), (h.r2.keep fun g hg1 => hg.block g (h.r2.lt hg1) (fun e => h.d12 g e.symm hg1)).keep fun g hg1 => heap_setCell_other _ _ _ _ (fun e => h.n2 (by rw [hg1]; exact congrArg some e)), hn, h.n2, hd, fun g hg1 => ?_, h.b2, ?_⟩
  · have h2 := heap_setCell_same w1 hb f _ T vw' hb1
    rw [h2]
    rw [arr_set1]
  · rcases ho with e | e
    · rw [e] at hg1; exact h.b1 g hg1
    · rw [e] at hg1; cases hg1; exact .inr h.ked.size
  · refine (h.ked.grown hg fun x hx hlt hk => ?_).set (fun _ hk => hk.1 rfl) _
    rcases h.b1 x hx with e | e
    · exact hk.2.1 e
    · omega
/-- the marks appended, and the slice stored -/
theorem AdM.app2 (h : AdM w0 w hb f cur T u0 v0 vw vs W S) (hr : RowM w1 vs' S') (hg : w.grownBy w1 vs.ownBlock) (ho : vs'.ownBlock = vs.ownBlock ∨ vs'.ownBlock = some w.heap.size) :
    AdM w0 (w1.setCell ⟨hb, f + 1, none⟩ vs') hb f cur T u0 v0 vw vs' W S' := by
  have hn : vs'.ownBlock ≠ some hb := by
    rcases ho with e | e
    · rw [e]; exact h.n2
    · rw [e]; intro e2; have := h.lt; cases e2; omega
  have hd : Dj vw vs' := by
    intro g hg1 hg2
    rcases ho with e | e
    · rw [e] at hg2; exact h.d12 g hg1 hg2
    · rw [e] at hg2; cases hg2; have := h.r1.lt hg1; omega
  have hb1 : w1.heap[hb]? = some (.cells ((cur.setIfInBounds f vw).setIfInBounds (f + 1) vs) T (0, 0)) := (hg.block hb h.lt (fun e => h.n2 e.symm)).trans h.blk
  refine ⟨?_, h.sz, h.hlt, (h.r1.keep fun g hg1 => hg.block g (h.r1.lt hg1) (fun e => h.d12 g hg1 e.symm)).keep fun g hg1 => heap_setCell_other _ _ _ _ (fun e => h.n1 (by rw [hg1]; exact congrArg some e)), hr.keep fun g hg1 => heap_setCell_other _ _ _ _ (fun e => hn (by rw [hg1]; exact congrArg some e)), h.n1, hn, hd, h.b1, fun g hg1 => ?_, ?_⟩
  · have h2 := heap_setCell_same w1 hb (f + 1) _ T vs' hb1
    rw [h2]
    rw [arr_set2]
  · rcases ho with e | e
    · rw [e] at hg1; exact h.b2 g hg1
    · rw [e] at hg1; cases hg1; exact .inr h.ked.size
  · refine (h.ked.grown hg fun x hx hlt hk => ?_).set (fun _ hk => hk.1 rfl) _
    rcases h.b2 x hx with e | e
    · exact hk.2.2 e
    · omega
/-- a mark set -/
theorem AdM.mark (h : AdM w0 w hb f cur T u0 v0 vw vs W S) {g : Nat} (hg : vs.ownBlock = some g) {j : Nat} (hj : j < S.length) (x : Nat) : AdM w0 (w.setCell ⟨g, j, none⟩ (.int .u64 (x : Nat))) hb f cur T u0 v0 vw vs W (S.set j x) := by
  have hk : ∀ k, k ≠ g → (w.setCell ⟨g, j, none⟩ (.int .u64 (x : Nat))).heap[k]? = w.heap[k]? := fun k hk => heap_setCell_other _ _ _ _ hk
  refine ⟨(hk hb (fun e => h.n2 (by rw [hg, e]))).trans h.blk, h.sz, h.hlt, h.r1.keep fun k hk1 => hk k (fun e => h.d12 k hk1 (by rw [hg, e])), h.r2.set hg hj x, h.n1, h.n2, h.d12, h.b1, h.b2, h.ked.set (fun hlt hk2 => ?_) _⟩
  rcases h.b2 g hg with e | e
  · exact hk2.2.2 e
  · have : g < w0.heap.size := hlt
    omega
end
/-- the marks, of which there is one more -/
def padS (S : List Nat) (p : Nat) : List Nat := S ++ List.replicate (p / 64 + 1 - S.length) 0
def addS (S : List Nat) (p : Nat) : List Nat := (padS S p).set (p / 64) ((padS S p).getD (p / 64) 0 ||| 1 <<< (p % 64))
theorem padS_len (S : List Nat) (p : Nat) : (padS S p).length = max S.length (p / 64 + 1) := by simp [padS]; omega
theorem bits_rep {S : List Nat} {l : List Ob} (h : BitsP S l) : ∀ n, BitsP (S ++ List.replicate n 0) l
  | 0 => by simpa using h
  | n + 1 => by
    have := (bits_rep h n).more
    rw [List.replicate_succ', ← List.append_assoc]
    exact this
theorem BitsP.add {S : List Nat} {l : List Ob} (h : BitsP S l) (o : Ob) {u : Nat} (hu : u = usedH l) : BitsP (addS S u) (l ++ [o]) := by
  refine (bits_rep h _).app o hu ?_
  have := padS_len S u
  unfold padS at this
  omega
theorem addS_len (S : List Nat) (p : Nat) : (addS S p).length = max S.length (p / 64 + 1) := by unfold addS; rw [List.length_set, padS_len]
end Go.Proofs.Ytfboejdddgedcaa
