import Derived.Test.YtghgjefobfaodaaDoorDatV0
import Derived.Maps.AppendAt
import Derived.Deep.AppendLies
namespace Go.Proofs.YtghgjefobfaodaaDoor
open Go.RowKit

/-! the document's open lists, the outermost ahead -/
def opL (fs : List Fr) (base : List Dat) : List Dat := .mk 0 ⟨#[]⟩ base :: fs.reverse.map fun f => listD f.2
def quL (fs : List Fr) : List Bool := false :: fs.reverse.map (·.1)
theorem opL_cons (f : Fr) (fs : List Fr) (base : List Dat) : opL (f :: fs) base = opL fs base ++ [listD f.2] := by simp [opL]
theorem quL_cons (f : Fr) (fs : List Fr) : quL (f :: fs) = quL fs ++ [f.1] := by simp [quL]
theorem opL_len (fs : List Fr) (base : List Dat) : (opL fs base).length = fs.length + 1 := by simp [opL]
theorem quL_len (fs : List Fr) : (quL fs).length = fs.length + 1 := by simp [quL]
def kindOf : List Fr → Int
  | [] => 0
  | _ :: _ => 5
def listOf : List Fr → List Dat → List Dat
  | [], base => base
  | f :: _, _ => f.2
def quOf : List Fr → Bool
  | [] => false
  | f :: _ => f.1
def initOf : List Fr → List Dat → List Dat
  | [], _ => []
  | _ :: r, base => opL r base
def quInit : List Fr → List Bool
  | [] => []
  | _ :: r => quL r
theorem opL_last (fs : List Fr) (base : List Dat) : opL fs base = initOf fs base ++ [.mk (kindOf fs) ⟨#[]⟩ (listOf fs base)] := by
  cases fs with
  | nil => rfl
  | cons f r => rw [opL_cons]; rfl
theorem quL_last (fs : List Fr) : quL fs = quInit fs ++ [quOf fs] := by
  cases fs with
  | nil => rfl
  | cons f r => rw [quL_cons]; rfl
theorem initOf_len (fs : List Fr) (base : List Dat) : (initOf fs base).length = fs.length := by
  cases fs with
  | nil => rfl
  | cons f r => exact opL_len r base
theorem quInit_len (fs : List Fr) : (quInit fs).length = fs.length := by
  cases fs with
  | nil => rfl
  | cons f r => exact quL_len r
/-- it ends with this list -/
theorem push_stop (fs : List Fr) (base : List Dat) (d : Dat) (h : quOf fs = false) :
    opL (pushD fs base d).1 (pushD fs base d).2 = initOf fs base ++ [.mk (kindOf fs) ⟨#[]⟩ (listOf fs base ++ [d])] ∧ quL (pushD fs base d).1 = quL fs ∧ (pushD fs base d).1.length = fs.length := by
  match fs, h with
  | [], _ => exact ⟨rfl, rfl, rfl⟩
  | (false, es) :: r, _ => exact ⟨by simp only [pushD, opL_cons]; rfl, by simp only [pushD, quL_cons], by simp [pushD]⟩
/-- it goes on with the list around -/
theorem push_go (fs : List Fr) (base : List Dat) (d : Dat) (h : quOf fs = true) :
    ∃ r, initOf fs base = opL r base ∧ quInit fs = quL r ∧ pushD fs base d = pushD r base (.mk (kindOf fs) ⟨#[]⟩ (listOf fs base ++ [d])) ∧ r.length + 1 = fs.length ∧ ∀ f ∈ r, f ∈ fs := by
  match fs, h with
  | (true, es) :: r, _ => exact ⟨r, rfl, rfl, rfl, rfl, fun f hf => List.mem_cons_of_mem _ hf⟩
/-- no list is longer -/
def CapD (M : Nat) (fs : List Fr) (base : List Dat) : Prop := base.length ≤ M ∧ ∀ f ∈ fs, f.2.length ≤ M
theorem CapD.list {M : Nat} {fs : List Fr} {base : List Dat} (h : CapD M fs base) : (listOf fs base).length ≤ M := by
  match fs, h with
  | [], h => exact h.1
  | f :: r, h => exact h.2 f (by simp)
theorem CapD.push {M : Nat} : ∀ {fs : List Fr} {base : List Dat} (d : Dat), CapD M fs base → CapD (M + 1) (pushD fs base d).1 (pushD fs base d).2
  | [], base, d, h => ⟨by have := h.1; simp [pushD]; omega, fun f hf => by simp [pushD] at hf⟩
  | (false, es) :: r, base, d, h => by
    refine ⟨by have := h.1; simp only [pushD]; omega, fun f hf => ?_⟩
    simp only [pushD, List.mem_cons] at hf
    rcases hf with rfl | hf
    · have := h.2 (false, es) (by simp)
      simp at this ⊢; omega
    · have := h.2 f (by simp [hf]); omega
  | (true, es) :: r, base, d, h => CapD.push (fs := r) _ ⟨h.1, fun f hf => h.2 f (by simp [hf])⟩
theorem CapD.mono {M M' : Nat} {fs : List Fr} {base : List Dat} (h : CapD M fs base) (hm : M ≤ M') : CapD M' fs base := ⟨Nat.le_trans h.1 hm, fun f hf => Nat.le_trans (h.2 f hf) hm⟩
theorem CapD.cons {M : Nat} {fs : List Fr} {base : List Dat} {f : Fr} (h : CapD M fs base) (hf : f.2.length ≤ M) : CapD M (f :: fs) base := ⟨h.1, fun x hx => by
  rcases List.mem_cons.1 hx with rfl | hx
  · exact hf
  · exact h.2 x hx⟩
theorem CapD.tail {M : Nat} {fs : List Fr} {base : List Dat} {f : Fr} (h : CapD M (f :: fs) base) : CapD M fs base := ⟨h.1, fun x hx => h.2 x (by simp [hx])⟩

/-! the last of rows -/
theorem RawsOf.unsnoc {w : World} {ok : Nat → Prop} {rs : List Raw} {l : List Dat} {d : Dat} (h : RawsOf w ok rs (l ++ [d])) : ∃ rs' r, rs = rs' ++ [r] ∧ RawsOf w ok rs' l ∧ RawOf w ok r d := by
  have hl : rs.length = l.length + 1 := by rw [h.1]; simp
  have hne : rs ≠ [] := by intro e; rw [e] at hl; simp at hl
  refine ⟨rs.dropLast, rs.getLast hne, (List.dropLast_concat_getLast hne).symm, ⟨by simp [hl], fun j hj => ?_⟩, ?_⟩
  · have hj' : j < rs.length := by omega
    have hd : j < rs.dropLast.length := by simp [hl]; omega
    have e : rs.dropLast.getD j raw0 = rs.getD j raw0 := by
      rw [List.getD_eq_getElem?_getD, List.getD_eq_getElem?_getD, List.getElem?_eq_getElem hd, List.getElem?_eq_getElem hj', List.getElem_dropLast]
    have := h.2 j (by simp; omega)
    rw [e]
    simpa [List.getD_eq_getElem?_getD, List.getElem?_append_left, hj] using this
  · have := h.2 l.length (by simp)
    have e : rs.getLast hne = rs.getD l.length raw0 := by
      rw [List.getLast_eq_getElem, List.getD_eq_getElem?_getD, List.getElem?_eq_getElem (by omega), Option.getD_some]
      congr 1
      omega
    rw [e]
    simpa [List.getD_eq_getElem?_getD] using this
theorem own_some_lt {w : World} {base e size g cap n : Nat} {xs : List Value} (h : w.ownsRow base e size (.slice (some ⟨g, 0, none⟩) n cap) n xs) : base ≤ g ∧ g < w.heap.size := by
  rcases h.2 with ⟨h, _⟩ | ⟨g', cap', cur, h, hb, hg, _⟩
  · cases h
  · cases h
    rcases Nat.lt_or_ge g w.heap.size with hlt | hge
    · exact ⟨hb, hlt⟩
    · rw [Array.getElem?_eq_none hge] at hg; cases hg
/-- an append of a slice that may be nil, onto a slice that is not -/
theorem run_append_onto {P : Program} (w : World) (base : Nat) (t ty e : TypeId) (i : TypeInfo) (z : Value) (size bytes : Nat) (ht : P.underlying t = some (.slice e)) (hi : P.info? e = some i) (hz : i.zero = some z)
    (hsize : i.size = size) (hby : i.bytes = bytes) (hzs : z.cells.size = size) (hsz : 0 < size)
    (g0 c0 n : Nat) (xs : List Value) (hown : w.ownsRow base e size (.slice (some ⟨g0, 0, none⟩) n c0) n xs)
    (ad : Option Addr) (m c : Nat) (news : List Value) (hl : news.length = m * size) (hnews : (m = 0 ∧ ad = none) ∨ ∃ a, ad = some a ∧ ∀ j u, news[j]? = some u → w.cell? (a.add j) = some u) (h1 : ∀ u ∈ news, u.oneCell' = true)
    (h63 : n + m ≤ maxLen) (hbytes : (n + m) * bytes ≤ 140737488355328) (hbase : base ≤ w.heap.size) (H : Nat) (hH : w.heap.size = H) :
    ∃ g cap w', (Builtin.append_ #[t, t] ty #[.slice (some ⟨g0, 0, none⟩) n c0, .slice ad m c]).run P w = .ok (.slice (some ⟨g, 0, none⟩) (n + m) cap) w' ∧
      w'.ownsRow base e size (.slice (some ⟨g, 0, none⟩) (n + m) cap) (n + m) (xs ++ news) ∧ w.grownBy w' (some g0) ∧ (g = g0 ∨ g = H) ∧ g < w'.heap.size := by
  rcases hnews with ⟨rfl, rfl⟩ | ⟨a, rfl, hnews⟩
  · have hn : news = [] := List.eq_nil_of_length_eq_zero (by simpa using hl)
    subst hn
    obtain ⟨g', cap', cur, hv, hb, hg, hnc, hcm, hcs, htake⟩ := (hown.2.resolve_left (fun h => by cases h.1))
    cases hv
    refine ⟨g0, c0, w, ?_, by simpa using hown, ⟨rfl, rfl, rfl, Nat.le_refl _, fun _ _ _ => rfl⟩, .inl rfl, (own_some_lt hown).2⟩
    simp [Builtin.append_, run_underlying ht, sizeOf, typeInfo, hi, Builtin.lenOf, Builtin.firstCells, hnc, storeCells]
  · obtain ⟨v', w', hr, h2, h3, h4, h5⟩ := run_append_own_at (P := P) w base t ty e i z size bytes ht hi hz hsize hby hzs hsz _ n xs hown a m c news hl hnews h1 h63 hbytes hbase
    rcases h2.2 with ⟨h, _⟩ | ⟨g, cap, cur, rfl, hrest⟩
    · have := (h4.1 h).1
      cases this
    · refine ⟨g, cap, w', hr, h2, h3, ?_, (own_some_lt h2).2⟩
      rcases h5 with h5 | h5
      · left; simpa [Value.ownBlock] using h5
      · right; rw [← hH]; simpa [Value.ownBlock] using h5
/-- at a step of a region that draws -/
theorem step_append_onto {P : Program} (w : World) {ops : Array Oper} {o : Oper} {a : Act} {K : Act → World → Prop} {Q : Exit → Act → World → Prop} {E : Prop} (hgd : o.guard = none) (s x : Operand) (t : TypeId)
    (ho : o.op = .call { callee := .builtin .append, args := #[s, x], argTypes := #[t, t] })
    (base : Nat) (e : TypeId) (i : TypeInfo) (z : Value) (size bytes : Nat) (ht : P.underlying t = some (.slice e)) (hi : P.info? e = some i) (hz : i.zero = some z)
    (hsize : i.size = size) (hby : i.bytes = bytes) (hzs : z.cells.size = size) (hsz : 0 < size)
    (g0 c0 n : Nat) (xs : List Value) (hs : a.eval s = .slice (some ⟨g0, 0, none⟩) n c0) (hown : w.ownsRow base e size (.slice (some ⟨g0, 0, none⟩) n c0) n xs)
    (ad : Option Addr) (m c : Nat) (news : List Value) (hx : a.eval x = .slice ad m c) (hl : news.length = m * size) (hnews : (m = 0 ∧ ad = none) ∨ ∃ a, ad = some a ∧ ∀ j u, news[j]? = some u → w.cell? (a.add j) = some u) (h1 : ∀ u ∈ news, u.oneCell' = true)
    (h63 : n + m ≤ maxLen) (hbytes : (n + m) * bytes ≤ 140737488355328) (hbase : base ≤ w.heap.size) (H : Nat) (hH : w.heap.size = H)
    (h : ∀ g cap w', w'.ownsRow base e size (.slice (some ⟨g, 0, none⟩) (n + m) cap) (n + m) (xs ++ news) → w.grownBy w' (some g0) → (g = g0 ∨ g = H) → g < w'.heap.size → K (a.put o.dst (.slice (some ⟨g, 0, none⟩) (n + m) cap)) w') :
    if Region.wanted o (yielded ops a.tmps) = true then Oper.wp P o a w K Q else E := by
  have hw : Region.wanted o (yielded ops a.tmps) = true := by simp [Region.wanted, hgd]
  rw [if_pos hw]
  obtain ⟨g, cap, w', hr, h2, h3, h4, h5⟩ := run_append_onto (P := P) w base t o.type e i z size bytes ht hi hz hsize hby hzs hsz g0 c0 n xs hown ad m c news hl hnews h1 h63 hbytes hbase H hH
  unfold Oper.wp execOp
  simp only [ho, resolve, invoke, builtin, Sem.run_bind, Sem.run_pure, Result.andThen_ok, List.map_toArray, List.map_cons, List.map_nil, hs, hx, hr]
  exact h g cap w' h2 h3 h4 h5

/-- a slice's first elements are its own too -/
theorem own_pop {w : World} {B e sz g cap n : Nat} {xs ys : List Value} (h : w.ownsRow B e sz (.slice (some ⟨g, 0, none⟩) n cap) n (xs ++ ys)) (k : Nat) (hk : k ≤ n) (hx : xs.length = k * sz) : w.ownsRow B e sz (.slice (some ⟨g, 0, none⟩) k cap) k xs := by
  rcases h.2 with ⟨h, _⟩ | ⟨g', cap', cur, hv, hb, hg, hnc, hcm, hcs, ht⟩
  · cases h
  · cases hv
    refine ⟨hx, .inr ⟨g, cap, cur, rfl, hb, hg, by omega, hcm, hcs, ?_⟩⟩
    have e : cur.toList.take (k * sz) = (cur.toList.take (n * sz)).take (k * sz) := by
      rw [List.take_take, Nat.min_eq_left (Nat.mul_le_mul_right _ hk)]
    rw [e, ht, ← hx, List.take_left]
/-- the last of three cells is written over -/
theorem own_set3 {w : World} {B e g cap n : Nat} {xs : List Value} {x y z : Value} (h : w.ownsRow B e 3 (.slice (some ⟨g, 0, none⟩) (n + 1) cap) (n + 1) (xs ++ [x, y, z])) (hx : xs.length = n * 3) (x' y' z' : Value) :
    (((w.setCell ⟨g, n * 3, none⟩ x').setCell ⟨g, n * 3 + 1, none⟩ y').setCell ⟨g, n * 3 + 2, none⟩ z').ownsRow B e 3 (.slice (some ⟨g, 0, none⟩) (n + 1) cap) (n + 1) (xs ++ [x', y', z']) := by
  rcases h.2 with ⟨h, _⟩ | ⟨g', cap', cur, hv, hb, hg, hnc, hcm, hcs, ht⟩
  · cases h
  · cases hv
    refine ⟨by simp [hx]; omega, .inr ⟨g, cap, ((cur.setIfInBounds (n * 3) x').setIfInBounds (n * 3 + 1) y').setIfInBounds (n * 3 + 2) z', rfl, hb, ?_, hnc, hcm, by simp [hcs], ?_⟩⟩
    · simp [World.setCell, Array.getElem?_modify, hg]
    · simp only [Array.toList_setIfInBounds, List.take_set, ht]
      rw [← hx]
      simp [List.set_append_right]
/-- the last of three cells is read -/
theorem own_get3 {w : World} {B e g cap n : Nat} {xs : List Value} {x y z : Value} (h : w.ownsRow B e 3 (.slice (some ⟨g, 0, none⟩) (n + 1) cap) (n + 1) (xs ++ [x, y, z])) (hx : xs.length = n * 3) :
    w.cell? ⟨g, n * 3, none⟩ = some x ∧ w.cell? ⟨g, n * 3 + 1, none⟩ = some y ∧ w.cell? ⟨g, n * 3 + 2, none⟩ = some z ∧ ∀ o, w.frozen? ⟨g, o, none⟩ = false := by
  have hc := @World.ownsRow.cells _ _ _ _ _ _ _ h
  have hh : ∃ cur, w.heap[g]? = some (.cells cur e (0, 0)) := by
    rcases h.2 with ⟨h, _⟩ | ⟨g', cap', cur, hv, hb, hg, _⟩
    · cases h
    · cases hv; exact ⟨_, hg⟩
  obtain ⟨cur, hg⟩ := hh
  refine ⟨?_, ?_, ?_, fun o => Lib.frozen_of_heap hg o⟩
  · have := hc (g := g) rfl (n * 3) x (by rw [← hx]; simp)
    rwa [add_none] at this
  · have := hc (g := g) rfl (n * 3 + 1) y (by rw [← hx]; simp)
    rwa [add_none] at this
  · have := hc (g := g) rfl (n * 3 + 2) z (by rw [← hx]; simp)
    rwa [add_none] at this
theorem own_get1 {w : World} {B e g cap n : Nat} {xs : List Value} {x : Value} (h : w.ownsRow B e 1 (.slice (some ⟨g, 0, none⟩) (n + 1) cap) (n + 1) (xs ++ [x])) (hx : xs.length = n) : w.cell? ⟨g, n, none⟩ = some x := by
  have hc := @World.ownsRow.cells _ _ _ _ _ _ _ h
  have := hc (g := g) rfl n x (by rw [← hx]; simp)
  rwa [add_none] at this

/-- a whole block -/
theorem own_whole {w : World} {g e base sz n : Nat} {cur : Array Value} {xs : List Value} (h : w.heap[g]? = some (.cells cur e (0, 0))) (hb : base ≤ g) (hs : cur.size = n * sz) (hn : n ≤ maxLen) (hx : cur.toList = xs) : w.ownsRow base e sz (.slice (some ⟨g, 0, none⟩) n n) n xs := by
  subst hx
  refine ⟨by simpa using hs, .inr ⟨g, n, cur, rfl, hb, h, Nat.le_refl _, hn, hs, List.take_of_length_le (by simp [hs])⟩⟩
theorem rows_cells_off {w : World} {b off : Nat} {rs : List Raw} (h : Rows3 w b off rs) : ∀ j u, (rawsCells rs)[j]? = some u → w.cell? ((⟨b, off, none⟩ : Addr).add j) = some u := by
  intro j u hu
  have hlen := rawsCells_len rs
  have hlt : j < (rawsCells rs).length := by
    rcases Nat.lt_or_ge j (rawsCells rs).length with h | h
    · exact h
    · rw [List.getElem?_eq_none h] at hu; cases hu
  have e : (⟨b, off, none⟩ : Addr).add j = ⟨b, off + j, none⟩ := by unfold Addr.add; split <;> simp_all
  rw [e]
  obtain ⟨q, r, hr, rfl⟩ : ∃ q r, r < 3 ∧ j = q * 3 + r := ⟨j / 3, j % 3, Nat.mod_lt _ (by omega), by omega⟩
  have hq : q < rs.length := by omega
  obtain ⟨h1, h2, h3⟩ := h q hq
  obtain ⟨g1, g2, g3⟩ := rawsCells_get rs q hq
  match r, hr with
  | 0, _ => rw [Nat.add_zero] at hu; rw [g1] at hu; rw [← hu]; exact h1
  | 1, _ => rw [g2] at hu; rw [← hu]; exact h2
  | 2, _ => rw [g3] at hu; rw [← hu]; exact h3
theorem raws_one {w : World} {ok : Nat → Prop} {rs : List Raw} {l : List Dat} (h : RawsOf w ok rs l) : ∀ u ∈ rawsCells rs, u.oneCell' = true := by
  intro u hu
  obtain ⟨r, hr, hu⟩ := List.mem_flatMap.1 hu
  obtain ⟨j, hj, rfl⟩ := List.getElem_of_mem hr
  obtain ⟨a, c, e⟩ := (h.2 j (h.1 ▸ hj)).2.2.val
  have e2 : (rs.getD j raw0) = rs[j] := by rw [List.getD_eq_getElem?_getD, List.getElem?_eq_getElem hj, Option.getD_some]
  rw [e2] at e
  simp only [rawCells, List.mem_cons, List.not_mem_nil, or_false] at hu
  rcases hu with rfl | rfl | rfl
  · rfl
  · rfl
  · rw [e]; rfl
/-- a slice of data that is to be copied -/
theorem slice_src {w : World} {ok : Nat → Prop} {sv : Value} {l : List Dat} (h : SliceOf w ok sv l) : ∃ ad c lrs, sv = .slice ad l.length c ∧ RawsOf w ok lrs l ∧
    ∀ w' : World, (∀ b o : Nat, ok b → w'.cell? ⟨b, o, none⟩ = w.cell? ⟨b, o, none⟩) → ((l.length = 0 ∧ ad = none) ∨ ∃ a, ad = some a ∧ ∀ j u, (rawsCells lrs)[j]? = some u → w'.cell? (a.add j) = some u) := by
  rcases h.inv with ⟨rfl, a, c, rfl⟩ | ⟨b, off, cap, rs, rfl, h1, h2, h3, h4⟩
  · refine ⟨a, c, [], rfl, RawsOf.none _ _, fun w' _ => ?_⟩
    cases a with
    | none => exact .inl ⟨rfl, rfl⟩
    | some a => exact .inr ⟨a, rfl, fun j u hu => by simp [rawsCells] at hu⟩
  · exact ⟨_, cap, rs, rfl, h4, fun w' hc => .inr ⟨_, rfl, rows_cells_off (h3.mono fun o => hc b o h1)⟩⟩
/-- the innermost of the open lists -/
theorem open_top {w : World} {B e go capo m : Nat} {ok : Nat → Prop} {fs : List Fr} {base : List Dat} {rs : List Raw} (HO : w.ownsRow B e 3 (.slice (some ⟨go, 0, none⟩) (m + 1) capo) (m + 1) (rawsCells rs)) (HR : RawsOf w ok rs (opL fs base)) (hm : m = fs.length) :
    ∃ rs' ad c lrs, rs = rs' ++ [⟨kindOf fs, ⟨#[]⟩, .slice ad (listOf fs base).length c⟩] ∧ rs'.length = m ∧ RawsOf w ok rs' (initOf fs base) ∧ SliceOf w ok (.slice ad (listOf fs base).length c) (listOf fs base) ∧ RawsOf w ok lrs (listOf fs base) ∧
      (∀ w' : World, (∀ b o : Nat, ok b → w'.cell? ⟨b, o, none⟩ = w.cell? ⟨b, o, none⟩) → (((listOf fs base).length = 0 ∧ ad = none) ∨ ∃ a, ad = some a ∧ ∀ j u, (rawsCells lrs)[j]? = some u → w'.cell? (a.add j) = some u)) ∧
      w.cell? ⟨go, m * 3, none⟩ = some (.int .i64 (kindOf fs)) ∧ w.cell? ⟨go, m * 3 + 1, none⟩ = some (.string ⟨#[]⟩) ∧ w.cell? ⟨go, m * 3 + 2, none⟩ = some (.slice ad (listOf fs base).length c) ∧ (∀ o, w.frozen? ⟨go, o, none⟩ = false) ∧ B ≤ go ∧ go < w.heap.size := by
  rw [opL_last] at HR
  obtain ⟨rs', r, rfl, h1, h2⟩ := HR.unsnoc
  obtain ⟨rk, rt, rv⟩ := r
  obtain ⟨hk, ht, hs⟩ := h2
  simp only [Dat.kind, Dat.text, Dat.list] at hk ht hs
  subst hk ht
  obtain ⟨ad, c, lrs, rfl, h3, h4⟩ := slice_src hs
  have hl : rs'.length = m := by rw [h1.1, initOf_len, hm]
  have hx : (rawsCells rs').length = m * 3 := by rw [rawsCells_len, hl]
  rw [rawsCells_app] at HO
  obtain ⟨c0, c1, c2, cf⟩ := own_get3 (xs := rawsCells rs') HO hx
  exact ⟨rs', ad, c, lrs, rfl, hl, h1, hs, h3, h4, c0, c1, c2, cf, own_some_lt HO⟩
theorem quo_top {w : World} {B e gq capq m : Nat} {fs : List Fr} (HQ : w.ownsRow B e 1 (.slice (some ⟨gq, 0, none⟩) (m + 1) capq) (m + 1) ((quL fs).map Value.bool)) (hm : m = fs.length) :
    w.cell? ⟨gq, m, none⟩ = some (.bool (quOf fs)) := by
  rw [quL_last, List.map_append] at HQ
  exact own_get1 HQ (by rw [List.length_map, quInit_len, hm])
theorem own_cap {w : World} {base e size g cap n : Nat} {xs : List Value} (h : w.ownsRow base e size (.slice (some ⟨g, 0, none⟩) n cap) n xs) : n ≤ cap ∧ cap ≤ maxLen := by
  rcases h.2 with ⟨h, _⟩ | ⟨g', cap', cur, h, hb, hg, h1, h2, _⟩
  · cases h
  · cases h; exact ⟨h1, h2⟩
/-- an empty slice that is not nil takes what is appended; all that was stays -/
theorem step_copy {P : Program} (w : World) {ops : Array Oper} {o : Oper} {a : Act} {K : Act → World → Prop} {Q : Exit → Act → World → Prop} {E : Prop} (hgd : o.guard = none) (s x : Operand) (t : TypeId)
    (ho : o.op = .call { callee := .builtin .append, args := #[s, x], argTypes := #[t, t] })
    (e : TypeId) (i : TypeInfo) (z : Value) (size bytes : Nat) (ht : P.underlying t = some (.slice e)) (hi : P.info? e = some i) (hz : i.zero = some z)
    (hsize : i.size = size) (hby : i.bytes = bytes) (hzs : z.cells.size = size) (hsz : 0 < size)
    (g0 : Nat) (hs : a.eval s = .slice (some ⟨g0, 0, none⟩) 0 0) (hg0 : w.heap[g0]? = some (.cells #[] e (0, 0)))
    (w0 : World) (B : Nat) (hB : B ≤ g0) (hbel : Below B w0 w)
    (ad : Option Addr) (m c : Nat) (news : List Value) (hx : a.eval x = .slice ad m c) (hl : news.length = m * size) (hsrc : ∀ w' : World, Below B w0 w' → (m = 0 ∧ ad = none) ∨ ∃ a, ad = some a ∧ ∀ j u, news[j]? = some u → w'.cell? (a.add j) = some u) (h1 : ∀ u ∈ news, u.oneCell' = true)
    (h63 : m ≤ maxLen) (hbytes : m * bytes ≤ 140737488355328)
    (h : ∀ g cap w', w'.ownsRow B e size (.slice (some ⟨g, 0, none⟩) m cap) m news → Below B w0 w' → w.heap.size ≤ w'.heap.size → (∀ k, k < w.heap.size → k ≠ g0 → w'.heap[k]? = w.heap[k]?) → K (a.put o.dst (.slice (some ⟨g, 0, none⟩) m cap)) w') :
    if Region.wanted o (yielded ops a.tmps) = true then Oper.wp P o a w K Q else E := by
  have hlt : g0 < w.heap.size := by
    rcases Nat.lt_or_ge g0 w.heap.size with h | h
    · exact h
    · rw [Array.getElem?_eq_none h] at hg0; cases hg0
  refine step_append_onto w hgd s x t ho B e i z size bytes ht hi hz hsize hby hzs hsz g0 0 0 [] hs (own_whole hg0 hB (by simp) (Nat.zero_le _) rfl) ad m c news hx hl (hsrc w hbel) h1 (by omega) (by rw [Nat.zero_add]; exact hbytes) (by omega) w.heap.size rfl ?_
  intro g cap w' h1 h2 h3 h4
  rw [Nat.zero_add, List.nil_append] at h1
  rw [Nat.zero_add]
  exact h g cap w' h1 (hbel.grown h2 (by omega) (fun k hk => by cases hk; exact hB)) h2.size (fun k hk hne => h2.block k hk (by simpa using hne))
/-- and one more behind -/
theorem step_snoc {P : Program} (w : World) {ops : Array Oper} {o : Oper} {a : Act} {K : Act → World → Prop} {Q : Exit → Act → World → Prop} {E : Prop} (hgd : o.guard = none) (s x : Operand) (t : TypeId)
    (ho : o.op = .call { callee := .builtin .append, args := #[s, x], argTypes := #[t, t] })
    (e : TypeId) (i : TypeInfo) (z : Value) (size bytes : Nat) (ht : P.underlying t = some (.slice e)) (hi : P.info? e = some i) (hz : i.zero = some z)
    (hsize : i.size = size) (hby : i.bytes = bytes) (hzs : z.cells.size = size) (hsz : 0 < size)
    (g c0 n : Nat) (xs : List Value) (hs : a.eval s = .slice (some ⟨g, 0, none⟩) n c0) (w0 : World) (B : Nat) (hown : w.ownsRow B e size (.slice (some ⟨g, 0, none⟩) n c0) n xs) (hbel : Below B w0 w)
    (b c : Nat) (news : List Value) (hx : a.eval x = .slice (some ⟨b, 0, none⟩) 1 c) (hl : news.length = size) (hnews : w.heap[b]? = some (.cells news.toArray e (0, 0))) (h1 : ∀ u ∈ news, u.oneCell' = true)
    (h63 : n + 1 ≤ maxLen) (hbytes : (n + 1) * bytes ≤ 140737488355328)
    (h : ∀ g cap w', w'.ownsRow B e size (.slice (some ⟨g, 0, none⟩) (n + 1) cap) (n + 1) (xs ++ news) → Below B w0 w' → K (a.put o.dst (.slice (some ⟨g, 0, none⟩) (n + 1) cap)) w') :
    if Region.wanted o (yielded ops a.tmps) = true then Oper.wp P o a w K Q else E := by
  have hlo := own_some_lt hown
  refine step_append_onto w hgd s x t ho B e i z size bytes ht hi hz hsize hby hzs hsz g c0 n xs hs hown (some ⟨b, 0, none⟩) 1 c news hx (by omega) (.inr ⟨_, rfl, ?_⟩) h1 h63 hbytes (by omega) w.heap.size rfl ?_
  · intro j u hu
    rw [add_none, Lib.cell_of_heap hnews]
    simpa using hu
  · intro g' cap w' h1 h2 h3 h4
    exact h g' cap w' h1 (hbel.grown h2 (by omega) (fun k hk => by cases hk; exact hlo.1))

theorem alloc_at {w : World} {cs : Array Value} {e : TypeId} {k : Nat} (hk : w.heap.size = k) : (w.alloc (.cells cs e)).heap[k]? = some (.cells cs e (0, 0)) := by
  subst hk; exact heap_alloc_new _ _
theorem alloc_past {w : World} {o x : Obj} {k : Nat} (h : w.heap[k]? = some x) (hk : k < w.heap.size) : (w.alloc o).heap[k]? = some x := (Below.heap_alloc _ _ _ hk).trans h
/-- what a list and one more come to -/
theorem push_list {wr W : World} {B e g cap : Nat} {ok okd ok' : Nat → Prop} {lrs : List Raw} {L dl : List Dat} {dk : Int} {dt : ByteArray} {dsv : Value} (O : W.ownsRow B e 3 (.slice (some ⟨g, 0, none⟩) (L.length + 1) cap) (L.length + 1) (rawsCells lrs ++ [.int .i64 dk, .string dt, dsv]))
    (hL : RawsOf wr ok lrs L) (hd : SliceOf wr okd dsv dl) (hc : ∀ b o : Nat, ok b → W.cell? ⟨b, o, none⟩ = wr.cell? ⟨b, o, none⟩) (hcd : ∀ b o : Nat, okd b → W.cell? ⟨b, o, none⟩ = wr.cell? ⟨b, o, none⟩) (ho : ∀ b, ok b → ok' b) (hod : ∀ b, okd b → ok' b) (hg : ok' g) (hm : L.length + 1 ≤ maxLen) :
    SliceOf W ok' (.slice (some ⟨g, 0, none⟩) (L.length + 1) cap) (L ++ [.mk dk dt dl]) := by
  have h1 : RawsOf W ok' (lrs ++ [⟨dk, dt, dsv⟩]) (L ++ [.mk dk dt dl]) := (hL.mono ho hc).snoc ⟨rfl, rfl, hd.mono hod hcd⟩
  have h2 : (lrs ++ [(⟨dk, dt, dsv⟩ : Raw)]).length = L.length + 1 := by simp [hL.1]
  refine SliceOf.of_own (B := B) (e := e) (rs := lrs ++ [⟨dk, dt, dsv⟩]) ?_ (by simpa using hm) (fun g' hg' => by cases hg'; exact hg) h1
  rw [h2, rawsCells_app]
  exact O
/-- the document's open lists, between two tokens -/
def RdRel (w1 : World) (N : Int) (ts : List Tok) (res : RRes) (o q i : Value) (wr : World) : Prop :=
  ∃ (k : Nat) (fs : List Fr) (base : List Dat) (m go capo gq capq : Nat) (rs : List Raw), i = .int .i64 k ∧ k ≤ ts.length ∧ m = fs.length ∧ m ≤ 60 ∧
    o = .slice (some ⟨go, 0, none⟩) (m + 1) capo ∧ q = .slice (some ⟨gq, 0, none⟩) (m + 1) capq ∧ Hid (res = runD N fs base (ts.drop k)) ∧ Hid (CapD (k + 1) fs base) ∧
    Hid (wr.ownsRow w1.heap.size 30 3 (.slice (some ⟨go, 0, none⟩) (m + 1) capo) (m + 1) (rawsCells rs)) ∧ Hid (RawsOf wr (fun b => w1.heap.size ≤ b ∧ b < wr.heap.size ∧ b ≠ go) rs (opL fs base)) ∧
    Hid (wr.ownsRow w1.heap.size 4 1 (.slice (some ⟨gq, 0, none⟩) (m + 1) capq) (m + 1) ((quL fs).map Value.bool)) ∧ Hid (Below w1.heap.size w1 wr) ∧ gq ≠ go
/-- and while a datum is laid where it belongs -/
def PushRel (w1 : World) (M D : Nat) (P : List Fr × List Dat) (o q : Value) (wr : World) : Prop :=
  ∃ (fs : List Fr) (base : List Dat) (dk : Int) (dt : ByteArray) (dl : List Dat) (m go capo gq capq : Nat) (rs : List Raw) (dsv : Value), m = fs.length ∧ m ≤ 60 ∧
    o = .slice (some ⟨go, 0, none⟩) (m + 1) capo ∧ q = .slice (some ⟨gq, 0, none⟩) (m + 1) capq ∧ D ≠ go ∧ D < wr.heap.size ∧ Hid (P = pushD fs base (.mk dk dt dl)) ∧ Hid (CapD M fs base) ∧
    Hid (wr.heap[D]? = some (.cells #[.int .i64 dk, .string dt, dsv] 30 (0, 0))) ∧ Hid (SliceOf wr (fun b => w1.heap.size ≤ b ∧ b < wr.heap.size ∧ b ≠ go ∧ b ≠ D) dsv dl) ∧
    Hid (wr.ownsRow w1.heap.size 30 3 (.slice (some ⟨go, 0, none⟩) (m + 1) capo) (m + 1) (rawsCells rs)) ∧ Hid (RawsOf wr (fun b => w1.heap.size ≤ b ∧ b < wr.heap.size ∧ b ≠ go ∧ b ≠ D) rs (opL fs base)) ∧
    Hid (wr.ownsRow w1.heap.size 4 1 (.slice (some ⟨gq, 0, none⟩) (m + 1) capq) (m + 1) ((quL fs).map Value.bool)) ∧ Hid (Below w1.heap.size w1 wr) ∧ gq ≠ go ∧ gq ≠ D ∧ w1.heap.size ≤ D
def lenV : Value → Nat
  | .slice _ n _ => n
  | _ => 0

/-- the list and one more, in memory of its own -/
def AppRel (wr : World) (q : Nat) (lrs : List Raw) (kd dk : Int) (dt : ByteArray) (dv : Value) (W : World) : Prop :=
  ∃ gC capC, Hid (W.ownsRow (wr.heap.size + 1) 30 3 (.slice (some ⟨gC, 0, none⟩) (q + 1) capC) (q + 1) (rawsCells lrs ++ [.int .i64 dk, .string dt, dv])) ∧
    Hid (W.heap[wr.heap.size]? = some (.cells #[.int .i64 kd, .string ⟨#[]⟩, .slice (some ⟨gC, 0, none⟩) (q + 1) capC] 30 (0, 0))) ∧ Hid (Below wr.heap.size wr W) ∧ wr.heap.size < W.heap.size
theorem app_rel {wr wb wC : World} {H q gC capC : Nat} {lrs : List Raw} {kd dk : Int} {dt : ByteArray} {dv x y z : Value} (hwb : wb = wr.alloc (.cells #[x, y, z] 30)) (hH : H = wr.heap.size) (hx : x = .int .i64 kd) (hy : y = .string ⟨#[]⟩)
    (O : wC.ownsRow wb.heap.size 30 3 (.slice (some ⟨gC, 0, none⟩) (q + 1) capC) (q + 1) (rawsCells lrs ++ [.int .i64 dk, .string dt, dv])) (B : Below wb.heap.size wb wC) :
    AppRel wr q lrs kd dk dt dv (wC.setCell ⟨H, 2, none⟩ (.slice (some ⟨gC, 0, none⟩) (q + 1) capC)) := by
  subst hH hx hy
  have hs : wb.heap.size = wr.heap.size + 1 := by rw [hwb]; simp
  have hz := B.size
  rw [hs] at O
  refine ⟨gC, capC, Lib.hid ?_, Lib.hid ?_, Lib.hid ?_, by simp [World.setCell]; omega⟩
  · exact own_block O fun g hg => by
      cases hg
      exact Below.heap_setCell _ _ _ _ (by have := (own_some_lt O).1; show gC ≠ wr.heap.size; omega)
  · have e : wC.heap[wr.heap.size]? = some (.cells #[.int .i64 kd, .string ⟨#[]⟩, z] 30 (0, 0)) := (B.block _ (by omega)).trans (by rw [hwb]; exact heap_alloc_new _ _)
    simp [World.setCell, Array.getElem?_modify, e]
  · refine Below.setCell (p := ⟨wr.heap.size, 2, none⟩) (Below.trans ?_ (B.mono (show wr.heap.size ≤ wb.heap.size by omega))) (Nat.le_refl _) _
    rw [hwb]
    exact (Below.refl _ _).alloc (Nat.le_refl _) _
theorem c3_heap {w : World} {b : Nat} {x y z x' y' z' : Value} {T : TypeId} {fr : Nat × Nat} (h : w.heap[b]? = some (.cells #[x, y, z] T fr)) :
    (((w.setCell ⟨b, 0, none⟩ x').setCell ⟨b, 1, none⟩ y').setCell ⟨b, 2, none⟩ z').heap[b]? = some (.cells #[x', y', z'] T fr) := by
  simp [World.setCell, Array.getElem?_modify, h]
theorem c3_other {w : World} {b j o1 o2 o3 : Nat} {x' y' z' : Value} (h : j ≠ b) : (((w.setCell ⟨b, o1, none⟩ x').setCell ⟨b, o2, none⟩ y').setCell ⟨b, o3, none⟩ z').heap[j]? = w.heap[j]? := by
  rw [Below.heap_setCell _ _ _ _ h, Below.heap_setCell _ _ _ _ h, Below.heap_setCell _ _ _ _ h]
theorem c3_size {w : World} {b o1 o2 o3 : Nat} {x' y' z' : Value} : (((w.setCell ⟨b, o1, none⟩ x').setCell ⟨b, o2, none⟩ y').setCell ⟨b, o3, none⟩ z').heap.size = w.heap.size := by simp [World.setCell]

/-- the datum is laid in the innermost list: the next token -/
theorem rd_push {w1 wr wc : World} {N : Int} {ts : List Tok} {res : RRes} {k q D m go capo gq capq gC capC : Nat} {P : List Fr × List Dat} {fs : List Fr} {base dl : List Dat} {dk kd : Int} {dt : ByteArray} {rs rs3 lrs : List Raw} {dsv x y z : Value} {ad : Option Addr} {c : Nat}
    (hk : k + 1 ≤ ts.length) (hmax : ts.length ≤ 2000) (hq : quOf fs = false) (hm : m = fs.length) (h60 : m ≤ 60) (HP : P = pushD fs base (.mk dk dt dl)) (HC : CapD (k + 1) fs base) (HQ : res = runD N P.1 P.2 (ts.drop (k + 1)))
    (HS : SliceOf wr (fun b => w1.heap.size ≤ b ∧ b < wr.heap.size ∧ b ≠ go ∧ b ≠ D) dsv dl)
    (HO : wr.ownsRow w1.heap.size 30 3 (.slice (some ⟨go, 0, none⟩) (m + 1) capo) (m + 1) (rawsCells rs)) (HOQ : wr.ownsRow w1.heap.size 4 1 (.slice (some ⟨gq, 0, none⟩) (m + 1) capq) (m + 1) ((quL fs).map Value.bool))
    (HB : Below w1.heap.size w1 wr) (hne : gq ≠ go) (hrs : rs = rs3 ++ [⟨kd, ⟨#[]⟩, .slice ad q c⟩]) (hl3 : rs3.length = m) (hkd : kd = kindOf fs) (hqq : q = (listOf fs base).length)
    (H3 : RawsOf wr (fun b => w1.heap.size ≤ b ∧ b < wr.heap.size ∧ b ≠ go ∧ b ≠ D) rs3 (initOf fs base)) (HL : RawsOf wr (fun b => w1.heap.size ≤ b ∧ b < wr.heap.size ∧ b ≠ go ∧ b ≠ D) lrs (listOf fs base))
    (O : wc.ownsRow (wr.heap.size + 1) 30 3 (.slice (some ⟨gC, 0, none⟩) (q + 1) capC) (q + 1) (rawsCells lrs ++ [.int .i64 dk, .string dt, dsv])) (B : Below wr.heap.size wr wc) (hx : x = .int .i64 kd) (hy : y = .string ⟨#[]⟩) (hz : z = .slice (some ⟨gC, 0, none⟩) (q + 1) capC) :
    RdRel w1 N ts res (.slice (some ⟨go, 0, none⟩) (m + 1) capo) (.slice (some ⟨gq, 0, none⟩) (m + 1) capq) (.int .i64 ((k : Int) + 1)) (((wc.setCell ⟨go, m * 3, none⟩ x).setCell ⟨go, m * 3 + 1, none⟩ y).setCell ⟨go, m * 3 + 2, none⟩ z) := by
  subst hx hy hz hkd hqq
  have lo := own_some_lt HO
  have lq := own_some_lt HOQ
  have lC := own_some_lt O
  have hsz := B.size
  have hB1 := HB.size
  obtain ⟨p1, p2, p3⟩ := push_stop fs base (.mk dk dt dl) hq
  rw [← HP] at p1 p2 p3
  have hC2 := HC.push (.mk dk dt dl)
  rw [← HP] at hC2
  have hrl : (rawsCells rs3).length = m * 3 := by rw [rawsCells_len, hl3]
  have HO' : wc.ownsRow w1.heap.size 30 3 (.slice (some ⟨go, 0, none⟩) (m + 1) capo) (m + 1) (rawsCells rs3 ++ [.int .i64 (kindOf fs), .string ⟨#[]⟩, .slice ad (listOf fs base).length c]) := by
    have := own_block HO (w' := wc) fun g hg => by cases hg; exact B.block _ lo.2
    rw [hrs, rawsCells_app] at this
    exact this
  have hcell : ∀ b o : Nat, b < wr.heap.size → b ≠ go → (((wc.setCell ⟨go, m * 3, none⟩ (.int .i64 (kindOf fs))).setCell ⟨go, m * 3 + 1, none⟩ (.string ⟨#[]⟩)).setCell ⟨go, m * 3 + 2, none⟩ (.slice (some ⟨gC, 0, none⟩) ((listOf fs base).length + 1) capC)).cell? ⟨b, o, none⟩ = wr.cell? ⟨b, o, none⟩ := fun b o hb hg =>
    World.cell?_of_block ((c3_other hg).trans (B.block _ hb))
  have hS : SliceOf (((wc.setCell ⟨go, m * 3, none⟩ (.int .i64 (kindOf fs))).setCell ⟨go, m * 3 + 1, none⟩ (.string ⟨#[]⟩)).setCell ⟨go, m * 3 + 2, none⟩ (.slice (some ⟨gC, 0, none⟩) ((listOf fs base).length + 1) capC)) (fun b => w1.heap.size ≤ b ∧ b < wc.heap.size ∧ b ≠ go) (.slice (some ⟨gC, 0, none⟩) ((listOf fs base).length + 1) capC) (listOf fs base ++ [.mk dk dt dl]) := by
    have hO2 := own_block O (w' := (((wc.setCell ⟨go, m * 3, none⟩ (.int .i64 (kindOf fs))).setCell ⟨go, m * 3 + 1, none⟩ (.string ⟨#[]⟩)).setCell ⟨go, m * 3 + 2, none⟩ (.slice (some ⟨gC, 0, none⟩) ((listOf fs base).length + 1) capC))) fun g hg => by
      cases hg; exact c3_other (show gC ≠ go by omega)
    refine push_list hO2 HL HS (fun b o hb => hcell b o hb.2.1 hb.2.2.1) (fun b o hb => hcell b o hb.2.1 hb.2.2.1) (fun b hb => ⟨hb.1, by omega, hb.2.2.1⟩) (fun b hb => ⟨hb.1, by omega, hb.2.2.1⟩) ⟨by omega, lC.2, by omega⟩ (by have := HC.list; unfold maxLen; omega)
  refine ⟨k + 1, P.1, P.2, m, go, capo, gq, capq, rs3 ++ [⟨kindOf fs, ⟨#[]⟩, .slice (some ⟨gC, 0, none⟩) ((listOf fs base).length + 1) capC⟩], by go_num, hk, by omega, h60, rfl, rfl, Lib.hid HQ, Lib.hid hC2, Lib.hid ?_, Lib.hid ?_, Lib.hid ?_, Lib.hid ?_, hne⟩
  · rw [rawsCells_app]
    exact own_set3 HO' hrl _ _ _
  · rw [p1]
    rw [c3_size]
    exact (H3.mono (fun b hb => ⟨hb.1, by omega, hb.2.2.1⟩) (fun b o hb => hcell b o hb.2.1 hb.2.2.1)).snoc ⟨rfl, rfl, hS⟩
  · rw [p2]
    exact own_block HOQ fun g hg => by cases hg; exact (c3_other hne).trans (B.block _ lq.2)
  · have hw : Below w1.heap.size w1 wc := HB.trans (B.mono hB1)
    exact ((hw.setCell (p := ⟨go, m * 3, none⟩) lo.1 _).setCell (p := ⟨go, m * 3 + 1, none⟩) lo.1 _).setCell (p := ⟨go, m * 3 + 2, none⟩) lo.1 _
/-- the list has its end: it is a datum itself -/
theorem push_next {w1 wr wc : World} {k q D m go capo gq capq gC capC : Nat} {P : List Fr × List Dat} {fs : List Fr} {base dl : List Dat} {dk kd : Int} {dt : ByteArray} {rs rs3 lrs : List Raw} {dsv x y z : Value} {ad : Option Addr} {c : Nat}
    (hkm : k ≤ 2000) (hq : quOf fs = true) (hm : m + 1 = fs.length) (h60 : m + 1 ≤ 60) (HP : P = pushD fs base (.mk dk dt dl)) (HC : CapD (k + 1) fs base) (hDg : D ≠ go) (hDl : D < wr.heap.size) (hD : wr.heap[D]? = some (.cells #[.int .i64 dk, .string dt, dsv] 30 (0, 0)))
    (HS : SliceOf wr (fun b => w1.heap.size ≤ b ∧ b < wr.heap.size ∧ b ≠ go ∧ b ≠ D) dsv dl)
    (HO : wr.ownsRow w1.heap.size 30 3 (.slice (some ⟨go, 0, none⟩) (m + 1 + 1) capo) (m + 1 + 1) (rawsCells rs)) (HOQ : wr.ownsRow w1.heap.size 4 1 (.slice (some ⟨gq, 0, none⟩) (m + 1 + 1) capq) (m + 1 + 1) ((quL fs).map Value.bool))
    (HB : Below w1.heap.size w1 wr) (hne : gq ≠ go) (hqD : gq ≠ D) (h1D : w1.heap.size ≤ D) (hrs : rs = rs3 ++ [⟨kd, ⟨#[]⟩, .slice ad q c⟩]) (hl3 : rs3.length = m + 1) (hkd : kd = kindOf fs) (hqq : q = (listOf fs base).length)
    (H3 : RawsOf wr (fun b => w1.heap.size ≤ b ∧ b < wr.heap.size ∧ b ≠ go ∧ b ≠ D) rs3 (initOf fs base)) (HL : RawsOf wr (fun b => w1.heap.size ≤ b ∧ b < wr.heap.size ∧ b ≠ go ∧ b ≠ D) lrs (listOf fs base))
    (O : wc.ownsRow (wr.heap.size + 1) 30 3 (.slice (some ⟨gC, 0, none⟩) (q + 1) capC) (q + 1) (rawsCells lrs ++ [.int .i64 dk, .string dt, dsv])) (B : Below wr.heap.size wr wc) (hx : x = .int .i64 kd) (hy : y = .string ⟨#[]⟩) (hz : z = .slice (some ⟨gC, 0, none⟩) (q + 1) capC) :
    PushRel w1 (k + 1) D P (.slice (some ⟨go, 0, none⟩) (m + 1) capo) (.slice (some ⟨gq, 0, none⟩) (m + 1) capq) (((wc.setCell ⟨D, 0, none⟩ x).setCell ⟨D, 1, none⟩ y).setCell ⟨D, 2, none⟩ z) := by
  subst hx hy hz hkd hqq
  have lo := own_some_lt HO
  have lq := own_some_lt HOQ
  have lC := own_some_lt O
  have hsz := B.size
  have hB1 := HB.size
  obtain ⟨r, p1, p2, p3, p4, p5⟩ := push_go fs base (.mk dk dt dl) hq
  have hcell : ∀ b o : Nat, b < wr.heap.size → b ≠ D → (((wc.setCell ⟨D, 0, none⟩ (.int .i64 (kindOf fs))).setCell ⟨D, 1, none⟩ (.string ⟨#[]⟩)).setCell ⟨D, 2, none⟩ (.slice (some ⟨gC, 0, none⟩) ((listOf fs base).length + 1) capC)).cell? ⟨b, o, none⟩ = wr.cell? ⟨b, o, none⟩ := fun b o hb hg =>
    World.cell?_of_block ((c3_other hg).trans (B.block _ hb))
  have hS : SliceOf (((wc.setCell ⟨D, 0, none⟩ (.int .i64 (kindOf fs))).setCell ⟨D, 1, none⟩ (.string ⟨#[]⟩)).setCell ⟨D, 2, none⟩ (.slice (some ⟨gC, 0, none⟩) ((listOf fs base).length + 1) capC)) (fun b => w1.heap.size ≤ b ∧ b < wc.heap.size ∧ b ≠ go ∧ b ≠ D) (.slice (some ⟨gC, 0, none⟩) ((listOf fs base).length + 1) capC) (listOf fs base ++ [.mk dk dt dl]) := by
    have hO2 := own_block O (w' := (((wc.setCell ⟨D, 0, none⟩ (.int .i64 (kindOf fs))).setCell ⟨D, 1, none⟩ (.string ⟨#[]⟩)).setCell ⟨D, 2, none⟩ (.slice (some ⟨gC, 0, none⟩) ((listOf fs base).length + 1) capC))) fun g hg => by
      cases hg; exact c3_other (show gC ≠ D by omega)
    refine push_list hO2 HL HS (fun b o hb => hcell b o hb.2.1 hb.2.2.2) (fun b o hb => hcell b o hb.2.1 hb.2.2.2) (fun b hb => ⟨hb.1, by omega, hb.2.2.1, hb.2.2.2⟩) (fun b hb => ⟨hb.1, by omega, hb.2.2.1, hb.2.2.2⟩) ⟨by omega, lC.2, by omega, by omega⟩ (by have := HC.list; unfold maxLen; omega)
  have hrl : (rawsCells rs3).length = (m + 1) * 3 := by rw [rawsCells_len, hl3]
  refine ⟨r, base, kindOf fs, ⟨#[]⟩, listOf fs base ++ [.mk dk dt dl], m, go, capo, gq, capq, rs3, .slice (some ⟨gC, 0, none⟩) ((listOf fs base).length + 1) capC, by omega, by omega, rfl, rfl, hDg, by rw [c3_size]; omega, Lib.hid (by rw [HP, p3]), Lib.hid ⟨HC.1, fun f hf => HC.2 f (p5 f hf)⟩, Lib.hid ?_, Lib.hid ?_, Lib.hid ?_, Lib.hid ?_, Lib.hid ?_, Lib.hid ?_, hne, hqD, h1D⟩
  · exact c3_heap ((B.block _ hDl).trans hD)
  · rw [c3_size]; exact hS
  · rw [hrs, rawsCells_app] at HO
    exact own_block (own_pop HO (m + 1) (by omega) hrl) fun g hg => by cases hg; exact (c3_other (Ne.symm hDg)).trans (B.block _ lo.2)
  · rw [c3_size, ← p1]
    exact H3.mono (fun b hb => ⟨hb.1, by omega, hb.2.2.1, hb.2.2.2⟩) (fun b o hb => hcell b o hb.2.1 hb.2.2.2)
  · rw [quL_last, List.map_append] at HOQ
    rw [← p2]
    exact own_block (own_pop HOQ (m + 1) (by omega) (by rw [List.length_map, quInit_len]; omega)) fun g hg => by cases hg; exact (c3_other hqD).trans (B.block _ lq.2)
  · have hw : Below w1.heap.size w1 wc := HB.trans (B.mono hB1)
    exact ((hw.setCell (p := ⟨D, 0, none⟩) h1D _).setCell (p := ⟨D, 1, none⟩) h1D _).setCell (p := ⟨D, 2, none⟩) h1D _
theorem quote_slice {w : World} {ok : Nat → Prop} {b : Nat} {T : TypeId} (h : w.heap[b]? = some (.cells #[.int .i64 1, .string ⟨#[113, 117, 111, 116, 101]⟩, .slice none 0 0] T (0, 0))) (hb : ok b) : SliceOf w ok (.slice (some ⟨b, 0, none⟩) 1 1) [quoteD] := by
  refine SliceOf.mkSome b 0 1 1 [⟨1, ⟨#[113, 117, 111, 116, 101]⟩, .slice none 0 0⟩] [quoteD] hb rfl rfl (by unfold maxLen; omega) ?_ ?_ ?_
  · intro j hj
    obtain rfl : j = 0 := by simp at hj; omega
    exact ⟨Lib.cell_of_heap h 0, Lib.cell_of_heap h 1, Lib.cell_of_heap h 2⟩
  · intro j hj
    obtain rfl : j = 0 := by simp at hj; omega
    exact ⟨rfl, rfl⟩
  · intro j hj
    obtain rfl : j = 0 := by simp at hj; omega
    exact .mkNil _ _
/-- the open lists and one more -/
def OpRel (wb : World) (m : Nat) (rs : List Raw) (sv : Value) (o : Value) (W : World) : Prop :=
  ∃ g cap, o = .slice (some ⟨g, 0, none⟩) (m + 1 + 1) cap ∧ Hid (W.ownsRow wb.heap.size 30 3 (.slice (some ⟨g, 0, none⟩) (m + 1 + 1) cap) (m + 1 + 1) (rawsCells rs ++ [.int .i64 5, .string ⟨#[]⟩, sv])) ∧
    Hid (Below wb.heap.size wb W) ∧ wb.heap.size ≤ W.heap.size
theorem rd_open {w1 wo wb wc wd : World} {N : Int} {ts : List Tok} {res : RRes} {k m go g cap h caph : Nat} {fs : List Fr} {base es : List Dat} {q : Bool} {rs : List Raw} {sv : Value}
    (hk : k + 1 ≤ ts.length) (hm : m = fs.length) (h60 : m < 60) (HC : CapD (k + 1) fs base) (HQ : res = runD N ((q, es) :: fs) base (ts.drop (k + 1))) (hes : es.length ≤ 1)
    (HRW : RawsOf wo (fun b => w1.heap.size ≤ b ∧ b < wo.heap.size ∧ b ≠ go) rs (opL fs base)) (HB : Below w1.heap.size w1 wo) (Bb : Below wo.heap.size wo wb) (HS : SliceOf wb (fun b => wo.heap.size ≤ b ∧ b < wb.heap.size) sv es)
    (O : wc.ownsRow wb.heap.size 30 3 (.slice (some ⟨g, 0, none⟩) (m + 1 + 1) cap) (m + 1 + 1) (rawsCells rs ++ [.int .i64 5, .string ⟨#[]⟩, sv])) (Bc : Below wb.heap.size wb wc)
    (O2 : wd.ownsRow wc.heap.size 4 1 (.slice (some ⟨h, 0, none⟩) (m + 1 + 1) caph) (m + 1 + 1) ((quL fs).map Value.bool ++ [.bool q])) (Bd : Below wc.heap.size wc wd) :
    RdRel w1 N ts res (.slice (some ⟨g, 0, none⟩) (m + 1 + 1) cap) (.slice (some ⟨h, 0, none⟩) (m + 1 + 1) caph) (.int .i64 ((k : Int) + 1)) wd := by
  have lg := own_some_lt O
  have lh := own_some_lt O2
  have z1 := HB.size
  have z2 := Bb.size
  have z3 := Bc.size
  have z4 := Bd.size
  have Bbd : Below wb.heap.size wb wd := Bc.trans (Bd.mono z3)
  have Bod : Below wo.heap.size wo wd := Bb.trans (Bbd.mono z2)
  refine ⟨k + 1, (q, es) :: fs, base, m + 1, g, cap, h, caph, rs ++ [⟨5, ⟨#[]⟩, sv⟩], by go_num, hk, by simp [hm], by omega, rfl, rfl, Lib.hid HQ, Lib.hid ((HC.mono (Nat.le_succ _)).cons (by show es.length ≤ k + 1 + 1; omega)), Lib.hid ?_, Lib.hid ?_, Lib.hid ?_, Lib.hid ?_, by omega⟩
  · rw [rawsCells_app]
    exact own_base (own_block O fun x hx => by cases hx; exact Bd.block _ lg.2) (by omega)
  · rw [opL_cons]
    refine (HRW.mono (fun b hb => ⟨hb.1, by omega, by omega⟩) (fun b o hb => Bod.cell (p := ⟨b, o, none⟩) hb.2.1)).snoc ⟨rfl, rfl, ?_⟩
    exact HS.mono (fun b hb => ⟨by omega, by omega, by omega⟩) (fun b o hb => Bbd.cell (p := ⟨b, o, none⟩) hb.2)
  · rw [quL_cons, List.map_append]
    exact own_base O2 (by omega)
  · exact HB.trans (Bod.mono z1)
end Go.Proofs.YtghgjefobfaodaaDoor
