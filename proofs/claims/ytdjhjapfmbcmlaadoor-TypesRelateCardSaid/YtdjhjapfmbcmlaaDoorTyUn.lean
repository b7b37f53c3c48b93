import Derived.Test.YtdjhjapfmbcmlaaDoorTyR
import Derived.Test.YtdjhjapfmbcmlaaDoorTyJb
import Derived.Test.YtdjhjapfmbcmlaaDoorTyRo
namespace Go.Proofs.YtdjhjapfmbcmlaaDoor
open Go.RowKit

/-- what a type is a union of, its components given -/
def partsT (f p : Int) (ps : List Ty) (g : Int) (fs : List Ty) : List Ty :=
  flatsT f (p == 2) ++ (if p = 1 then [.mk false 0 1 ps 0 []] else if p = 2 then (if bitOf f 16 then [.mk false 16 2 ps 0 []] else [.mk false 0 2 ps 0 []]) else []) ++ (if g = 1 then [.mk false 0 0 [] 1 fs] else if g = 2 then [procT] else [])
/-- one type of parts, not joined -/
def oneU (l : List Ty) : Ty := match l with
  | [] => ty0
  | [t] => t
  | l => .mk false 0 (-1) l 0 []
mutual
/-- a type as it is parsed: its unions not joined -/
def unT : Ty → Ty
  | .mk a f p ps g fs => if a then tyAll else oneU (partsT f p (unTs ps) g (unTs fs))
def unTs : List Ty → List Ty
  | [] => []
  | t :: r => unT t :: unTs r
end
theorem unT_eq (t : Ty) : unT t = if t.all then tyAll else oneU (partsT t.flat t.pair (unTs t.pairs) t.fn (unTs t.funs)) := by
  cases t; rw [unT]; rfl
theorem unTs_map : ∀ (l : List Ty), unTs l = l.map unT
  | [] => by rw [unTs]; rfl
  | t :: r => by rw [unTs, unTs_map r]; rfl
theorem unTs_len (l : List Ty) : (unTs l).length = l.length := by rw [unTs_map, List.length_map]
theorem unTs_get (l : List Ty) (j : Nat) (h : j < l.length) : (unTs l).getD j ty0 = unT (l.getD j ty0) := by
  rw [unTs_map, List.getD_eq_getElem?_getD, List.getD_eq_getElem?_getD, List.getElem?_map, List.getElem?_eq_getElem h]; rfl

/-- two types joined of which at most one has pairs, and at most one procedures -/
def jn (a b : Ty) : Ty := .mk false (flatJoin a.flat b.flat) (if b.pair = 0 then a.pair else b.pair) (if b.pair = 0 then a.pairs else b.pairs) (if b.fn = 0 then a.fn else b.fn) (if b.fn = 0 then a.funs else b.funs)
def orow (l : List Ty) : Ty := l.foldr jn ty0
def HdN (t : Ty) : Prop := HdT t ∧ t.all = false
theorem HdN.zero : HdN ty0 := ⟨by rfl, rfl⟩
theorem hd_pairs0 {t : Ty} (h : HdT t) (h0 : t.pair = 0) : t.pairs = [] := by
  have := (headH h).2.2.2.2.2.2.2.1
  rw [if_neg (by omega), if_neg (by omega)] at this
  exact List.length_eq_zero_iff.1 (by omega)
theorem hd_funs0 {t : Ty} (h : HdT t) (h0 : t.fn ≠ 1) : t.funs = [] := List.length_eq_zero_iff.1 ((headH h).2.2.2.2.2.2.2.2.1 h0)
theorem jn_hd {a b : Ty} (ha : HdN a) (hb : HdN b) : HdN (jn a b) := by
  have pa := headH ha.1
  have pb := headH hb.1
  have hf := fj_range pa.1 pa.2.1 pb.1 pb.2.1
  refine ⟨decide_eq_true ⟨hf.1, hf.2, ?_, ?_, ?_, ?_, (fun h => by cases h), ?_, ?_, ?_⟩, rfl⟩
  · show (0 : Int) ≤ if b.pair = 0 then a.pair else b.pair
    split <;> omega
  · show (if b.pair = 0 then a.pair else b.pair) ≤ (2 : Int)
    split <;> omega
  · show (0 : Int) ≤ if b.fn = 0 then a.fn else b.fn
    split <;> omega
  · show (if b.fn = 0 then a.fn else b.fn) ≤ (2 : Int)
    split <;> omega
  · show (((if b.pair = 0 then a.pairs else b.pairs).length : Nat) : Int) = if (if b.pair = 0 then a.pair else b.pair) = 1 then 2 else if (if b.pair = 0 then a.pair else b.pair) = 2 then 1 else 0
    by_cases h : b.pair = 0
    · rw [if_pos h, if_pos h]; exact pa.2.2.2.2.2.2.2.1
    · rw [if_neg h, if_neg h]; exact pb.2.2.2.2.2.2.2.1
  · show (if b.fn = 0 then a.fn else b.fn) ≠ 1 → (if b.fn = 0 then a.funs else b.funs).length = 0
    by_cases h : b.fn = 0
    · rw [if_pos h, if_pos h]; exact pa.2.2.2.2.2.2.2.2.1
    · rw [if_neg h, if_neg h]; exact pb.2.2.2.2.2.2.2.2.1
  · show (if b.fn = 0 then a.fn else b.fn) = 1 → 1 ≤ (if b.fn = 0 then a.funs else b.funs).length ∧ (if b.fn = 0 then a.funs else b.funs).length ≤ 9
    by_cases h : b.fn = 0
    · rw [if_pos h, if_pos h]; exact pa.2.2.2.2.2.2.2.2.2
    · rw [if_neg h, if_neg h]; exact pb.2.2.2.2.2.2.2.2.2
theorem jn_left {x : Ty} (h : HdN x) : jn ty0 x = x := by
  have pa := headH h.1
  refine Ty.ext' h.2.symm ?_ ?_ ?_ ?_ ?_
  · show flatJoin 0 x.flat = x.flat
    rw [fj_comm (by omega) (by omega) pa.1 pa.2.1, fj_zero pa.1 pa.2.1]
  · show (if x.pair = 0 then (0 : Int) else x.pair) = x.pair
    split <;> omega
  · show (if x.pair = 0 then ([] : List Ty) else x.pairs) = x.pairs
    by_cases h0 : x.pair = 0
    · rw [if_pos h0, hd_pairs0 h.1 h0]
    · rw [if_neg h0]
  · show (if x.fn = 0 then (0 : Int) else x.fn) = x.fn
    split <;> omega
  · show (if x.fn = 0 then ([] : List Ty) else x.funs) = x.funs
    by_cases h0 : x.fn = 0
    · rw [if_pos h0, hd_funs0 h.1 (by omega)]
    · rw [if_neg h0]
theorem jn_right {x : Ty} (h : HdN x) : jn x ty0 = x := by
  have pa := headH h.1
  exact Ty.ext' h.2.symm (fj_zero pa.1 pa.2.1) rfl rfl rfl rfl
theorem jn_assoc {a b c : Ty} (ha : HdN a) (hb : HdN b) (hc : HdN c) : jn (jn a b) c = jn a (jn b c) := by
  have pa := headH ha.1
  have pb := headH hb.1
  have pc := headH hc.1
  have hab := fj_range pa.1 pa.2.1 pb.1 pb.2.1
  have hbc := fj_range pb.1 pb.2.1 pc.1 pc.2.1
  refine Ty.ext' rfl ?_ ?_ ?_ ?_ ?_
  · show flatJoin (flatJoin a.flat b.flat) c.flat = flatJoin a.flat (flatJoin b.flat c.flat)
    rw [fj hab.1 hab.2 pc.1 pc.2.1, fj pa.1 pa.2.1 hbc.1 hbc.2, fj pa.1 pa.2.1 pb.1 pb.2.1, fj pb.1 pb.2.1 pc.1 pc.2.1, Int.toNat_natCast, Int.toNat_natCast, Nat.or_assoc]
  · show (if c.pair = 0 then (if b.pair = 0 then a.pair else b.pair) else c.pair) = if (if c.pair = 0 then b.pair else c.pair) = 0 then a.pair else (if c.pair = 0 then b.pair else c.pair)
    by_cases h : c.pair = 0
    · rw [if_pos h, if_pos h]
    · rw [if_neg h, if_neg h, if_neg h]
  · show (if c.pair = 0 then (if b.pair = 0 then a.pairs else b.pairs) else c.pairs) = if (if c.pair = 0 then b.pair else c.pair) = 0 then a.pairs else (if c.pair = 0 then b.pairs else c.pairs)
    by_cases h : c.pair = 0
    · rw [if_pos h, if_pos h, if_pos h]
    · rw [if_neg h, if_neg h, if_neg h, if_neg h]
  · show (if c.fn = 0 then (if b.fn = 0 then a.fn else b.fn) else c.fn) = if (if c.fn = 0 then b.fn else c.fn) = 0 then a.fn else (if c.fn = 0 then b.fn else c.fn)
    by_cases h : c.fn = 0
    · rw [if_pos h, if_pos h]
    · rw [if_neg h, if_neg h, if_neg h]
  · show (if c.fn = 0 then (if b.fn = 0 then a.funs else b.funs) else c.funs) = if (if c.fn = 0 then b.fn else c.fn) = 0 then a.funs else (if c.fn = 0 then b.funs else c.funs)
    by_cases h : c.fn = 0
    · rw [if_pos h, if_pos h, if_pos h]
    · rw [if_neg h, if_neg h, if_neg h, if_neg h]
theorem orow_hd : ∀ (l : List Ty), (∀ x ∈ l, HdN x) → HdN (orow l)
  | [], _ => HdN.zero
  | a :: r, h => jn_hd (h a (List.mem_cons_self ..)) (orow_hd r fun x hx => h x (List.mem_cons_of_mem _ hx))
theorem orow_app : ∀ (l m : List Ty), (∀ x ∈ l, HdN x) → (∀ x ∈ m, HdN x) → orow (l ++ m) = jn (orow l) (orow m)
  | [], m, _, hm => (jn_left (orow_hd m hm)).symm
  | a :: r, m, hl, hm => by
    have ha := hl a (List.mem_cons_self ..)
    have hr : ∀ x ∈ r, HdN x := fun x hx => hl x (List.mem_cons_of_mem _ hx)
    show jn a (orow (r ++ m)) = jn (jn a (orow r)) (orow m)
    rw [orow_app r m hr hm, jn_assoc ha (orow_hd r hr) (orow_hd m hm)]
theorem orow_one {x : Ty} (h : HdN x) : orow [x] = x := jn_right h
theorem orow_pair0 : ∀ (l : List Ty), (∀ x ∈ l, x.pair = 0) → (orow l).pair = 0
  | [], _ => rfl
  | a :: r, h => by
    show (if (orow r).pair = 0 then a.pair else (orow r).pair) = 0
    rw [if_pos (orow_pair0 r fun x hx => h x (List.mem_cons_of_mem _ hx))]; exact h a (List.mem_cons_self ..)
theorem orow_fn0 : ∀ (l : List Ty), (∀ x ∈ l, x.fn = 0) → (orow l).fn = 0
  | [], _ => rfl
  | a :: r, h => by
    show (if (orow r).fn = 0 then a.fn else (orow r).fn) = 0
    rw [if_pos (orow_fn0 r fun x hx => h x (List.mem_cons_of_mem _ hx))]; exact h a (List.mem_cons_self ..)
/-- at most one has pairs, at most one procedures -/
structure Thin (l : List Ty) : Prop where
  hd : ∀ x ∈ l, HdN x
  np : (l.filter fun x => x.pair != 0).length ≤ 1
  nf : (l.filter fun x => x.fn != 0).length ≤ 1
theorem filter0 {p : Ty → Bool} {l : List Ty} (h : (l.filter p).length = 0) : ∀ x ∈ l, p x = false := fun x hx => by
  have := List.length_eq_zero_iff.1 h
  rw [List.filter_eq_nil_iff] at this
  simpa using this x hx
theorem Thin.app {l m : List Ty} (h : Thin (l ++ m)) : Thin l ∧ Thin m ∧ ((orow l).pair = 0 ∨ (orow m).pair = 0) ∧ ((orow l).fn = 0 ∨ (orow m).fn = 0) := by
  have h1 := h.np
  have h2 := h.nf
  rw [List.filter_append, List.length_append] at h1 h2
  refine ⟨⟨fun x hx => h.hd x (List.mem_append_left _ hx), by omega, by omega⟩, ⟨fun x hx => h.hd x (List.mem_append_right _ hx), by omega, by omega⟩, ?_, ?_⟩
  · by_cases e : (l.filter fun x => x.pair != 0).length = 0
    · exact .inl (orow_pair0 l fun x hx => by have := filter0 e x hx; simpa using this)
    · exact .inr (orow_pair0 m fun x hx => by have := filter0 (p := fun x => x.pair != 0) (l := m) (by omega) x hx; simpa using this)
  · by_cases e : (l.filter fun x => x.fn != 0).length = 0
    · exact .inl (orow_fn0 l fun x hx => by have := filter0 e x hx; simpa using this)
    · exact .inr (orow_fn0 m fun x hx => by have := filter0 (p := fun x => x.fn != 0) (l := m) (by omega) x hx; simpa using this)
theorem joinBy_jn {J : Ty → Ty → Ty} {P : Ty → Ty → Bool} {x y : Ty} (hx : HdN x) (hy : HdN y) (hp : x.pair = 0 ∨ y.pair = 0) (hf : x.fn = 0 ∨ y.fn = 0) : joinByT J P x y = jn x y := by
  unfold joinByT jn
  rw [hx.2, hy.2, Bool.false_or, if_neg (by simp)]
  have e1 : joinPairsP x y = if y.pair = 0 then x.pair else y.pair := by
    unfold joinPairsP
    by_cases h : y.pair = 0
    · rw [if_pos h, if_pos h]
    · rw [if_neg h, if_neg h, if_pos (hp.resolve_right h)]
  have e2 : joinPairsL J x y = if y.pair = 0 then x.pairs else y.pairs := by
    unfold joinPairsL
    by_cases h : y.pair = 0
    · rw [if_pos h, if_pos h]
    · rw [if_neg h, if_neg h, if_pos (hp.resolve_right h)]
  have e3 : joinFunsP P x y = if y.fn = 0 then x.fn else y.fn := by
    unfold joinFunsP
    by_cases h : y.fn = 0
    · rw [if_pos h, if_pos h]
    · rw [if_neg h, if_neg h, if_pos (hf.resolve_right h)]
  have e4 : joinFunsL P x y = if y.fn = 0 then x.funs else y.funs := by
    unfold joinFunsL
    by_cases h : y.fn = 0
    · rw [if_pos h, if_pos h]
    · rw [if_neg h, if_neg h, if_pos (hf.resolve_right h)]
  rw [e1, e2, e3, e4]

/-- a type whose components are as they were parsed -/
def hdU (t : Ty) : Ty := .mk t.all t.flat t.pair (unTs t.pairs) t.fn (unTs t.funs)
theorem flat_hd {f : Int} (h0 : 0 ≤ f) (h1 : f ≤ 63) : HdN (flatT f) := ⟨(ok_flat h0 h1).head, rfl⟩
theorem orow_flats (l : List Int) : orow (l.map flatT) = flatT (l.foldr flatJoin 0) := by
  induction l with
  | nil => rfl
  | cons b r ih => show jn (flatT b) (orow (r.map flatT)) = _; rw [ih]; rfl
theorem rbits_all : ∀ F, F < 64 → (bitsL ((F : Nat) : Int) false).foldr flatJoin 0 = F := by decide +kernel
theorem rbits_null : ∀ F, F < 64 → (bitsL ((F : Nat) : Int) true).foldr flatJoin 0 = (F : Int) - (if bitOf ((F : Nat) : Int) 16 then 16 else 0) := by decide +kernel
theorem parts_thin (t : Ty) (ht : okTy t) : Thin (partsT t.flat t.pair (unTs t.pairs) t.fn (unTs t.funs)) ∧ orow (partsT t.flat t.pair (unTs t.pairs) t.fn (unTs t.funs)) = .mk false t.flat t.pair (unTs t.pairs) t.fn (unTs t.funs) := by
  have pa := headP ht
  have hlp := unTs_len t.pairs
  have hlf := unTs_len t.funs
  generalize unTs t.pairs = ps at hlp ⊢
  generalize unTs t.funs = fs at hlf ⊢
  have hl := pa.2.2.2.2.2.2.2.1
  have hf1 := pa.2.2.2.2.2.2.2.2.1
  have hf2 := pa.2.2.2.2.2.2.2.2.2
  rw [← hlp] at hl
  rw [← hlf] at hf1 hf2
  obtain ⟨F, hF⟩ : ∃ F : Nat, t.flat = F := ⟨t.flat.toNat, by omega⟩
  have hF6 : F < 64 := by omega
  have hb16 := bits_back F hF6
  -- the flat tags
  have fl : ∀ nul, (∀ x ∈ flatsT t.flat nul, HdN x ∧ x.pair = 0 ∧ x.fn = 0) := fun nul x hx => by
    rw [flatsT_map, hF] at hx
    obtain ⟨b, hb, rfl⟩ := List.mem_map.1 hx
    have := bits_mem F hF6 b (by cases nul; exact List.mem_append_left _ hb; exact List.mem_append_right _ hb)
    exact ⟨flat_hd (by omega) this.2, rfl, rfl⟩
  have okp : ∀ q : Int, 0 ≤ q → q ≤ 63 → HdN (.mk false q t.pair ps 0 []) := fun q h0 h1 =>
    ⟨decide_eq_true ⟨h0, h1, pa.2.2.1, pa.2.2.2.1, by show (0 : Int) ≤ 0; omega, by show (0 : Int) ≤ 2; omega, (fun h => by cases h), hl, (fun _ => rfl), fun h => by cases h⟩, rfl⟩
  have okf : HdN (.mk false 0 0 [] t.fn fs) :=
    ⟨decide_eq_true ⟨by show (0 : Int) ≤ 0; omega, by show (0 : Int) ≤ 63; omega, by show (0 : Int) ≤ 0; omega, by show (0 : Int) ≤ 2; omega, pa.2.2.2.2.1, pa.2.2.2.2.2.1, (fun h => by cases h), rfl, hf1, hf2⟩, rfl⟩
  -- the pairs
  obtain ⟨P, hPe, hP1, hP2, hP3⟩ : ∃ P : List Ty, P = (if t.pair = 1 then [.mk false 0 1 ps 0 []] else if t.pair = 2 then (if bitOf t.flat 16 then [.mk false 16 2 ps 0 []] else [.mk false 0 2 ps 0 []]) else []) ∧ (∀ x ∈ P, HdN x ∧ x.fn = 0) ∧ P.length ≤ 1 ∧
      jn (orow (flatsT t.flat (t.pair == 2))) (orow P) = .mk false t.flat t.pair ps 0 [] := by
    refine ⟨_, rfl, ?_, ?_, ?_⟩
    · intro x hx
      rcases pair_cases ht with h | h | h
      · rw [if_neg (by omega), if_neg (by omega)] at hx; cases hx
      · rw [if_pos h] at hx
        rw [List.mem_singleton.1 hx]
        have := okp 0 (by omega) (by omega)
        rw [h] at this
        exact ⟨this, rfl⟩
      · rw [if_neg (by omega), if_pos h] at hx
        have e1 := okp 0 (by omega) (by omega)
        have e2 := okp 16 (by omega) (by omega)
        rw [h] at e1 e2
        split at hx
        · rw [List.mem_singleton.1 hx]; exact ⟨e2, rfl⟩
        · rw [List.mem_singleton.1 hx]; exact ⟨e1, rfl⟩
    · split
      · simp
      · split
        · split <;> simp
        · simp
    · rw [flatsT_map, orow_flats, hF]
      rcases pair_cases ht with h | h | h
      · have hp0 : ps = [] := List.length_eq_zero_iff.1 (by rw [h] at hl; simpa using hl)
        rw [if_neg (by omega), if_neg (by omega), h, show ((0 : Int) == 2) = false from rfl, rbits_all F hF6, hp0]
        exact jn_right (flat_hd (by omega) (by omega))
      · have e1 := okp 0 (by omega) (by omega)
        rw [h] at e1 ⊢
        rw [if_pos rfl, show ((1 : Int) == 2) = false from rfl, rbits_all F hF6, orow_one e1]
        refine Ty.ext' rfl ?_ rfl rfl rfl rfl
        exact fj_zero (f := (F : Int)) (by omega) (by omega)
      · have e1 := okp 0 (by omega) (by omega)
        have e2 := okp 16 (by omega) (by omega)
        rw [h] at e1 e2 ⊢
        rw [if_neg (by omega), if_pos rfl, show ((2 : Int) == 2) = true from rfl, rbits_null F hF6]
        cases hb : bitOf (F : Int) 16 with
        | true =>
          rw [if_pos rfl, if_pos rfl, orow_one e2]
          exact Ty.ext' rfl (hb16 hb).2 rfl rfl rfl rfl
        | false =>
          rw [if_neg (by simp), if_neg (by simp), Int.sub_zero, orow_one e1]
          exact Ty.ext' rfl (fj_zero (f := (F : Int)) (by omega) (by omega)) rfl rfl rfl rfl
  -- the procedures
  obtain ⟨G, hGe, hG1, hG2, hG3⟩ : ∃ G : List Ty, G = (if t.fn = 1 then [.mk false 0 0 [] 1 fs] else if t.fn = 2 then [procT] else []) ∧ (∀ x ∈ G, HdN x ∧ x.pair = 0) ∧ G.length ≤ 1 ∧
      jn (.mk false t.flat t.pair ps 0 []) (orow G) = .mk false t.flat t.pair ps t.fn fs := by
    have oka := okp t.flat pa.1 pa.2.1
    refine ⟨_, rfl, ?_, ?_, ?_⟩
    · intro x hx
      rcases fn_cases ht with h | h | h
      · rw [if_neg (by omega), if_neg (by omega)] at hx; cases hx
      · rw [if_pos h] at hx
        rw [List.mem_singleton.1 hx]
        rw [h] at okf
        exact ⟨okf, rfl⟩
      · rw [if_neg (by omega), if_pos h] at hx
        rw [List.mem_singleton.1 hx]
        exact ⟨⟨by rfl, rfl⟩, rfl⟩
    · split
      · simp
      · split <;> simp
    · rcases fn_cases ht with h | h | h
      · have hp0 : fs = [] := List.length_eq_zero_iff.1 (hf1 (by omega))
        rw [if_neg (by omega), if_neg (by omega), h, hp0]
        exact jn_right oka
      · rw [h] at okf ⊢
        rw [if_pos rfl, orow_one okf]
        refine Ty.ext' rfl ?_ rfl rfl rfl rfl
        exact fj_zero pa.1 pa.2.1
      · have hp0 : fs = [] := List.length_eq_zero_iff.1 (hf1 (by omega))
        rw [if_neg (by omega), if_pos h, h, hp0, orow_one ⟨by rfl, rfl⟩]
        refine Ty.ext' rfl ?_ rfl rfl rfl rfl
        exact fj_zero pa.1 pa.2.1
  unfold partsT
  rw [← hPe, ← hGe]
  refine ⟨⟨?_, ?_, ?_⟩, ?_⟩
  · intro x hx
    rcases List.mem_append.1 hx with hx | hx
    · rcases List.mem_append.1 hx with hx | hx
      · exact (fl _ x hx).1
      · exact (hP1 x hx).1
    · exact (hG1 x hx).1
  · rw [List.filter_append, List.filter_append, List.length_append, List.length_append]
    have a1 : ((flatsT t.flat (t.pair == 2)).filter fun x => x.pair != 0).length = 0 := by
      rw [List.length_eq_zero_iff, List.filter_eq_nil_iff]; intro x hx; simp [(fl _ x hx).2.1]
    have a3 : (G.filter fun x => x.pair != 0).length = 0 := by
      rw [List.length_eq_zero_iff, List.filter_eq_nil_iff]; intro x hx; simp [(hG1 x hx).2]
    have a2 := List.length_filter_le (fun x => x.pair != 0) P
    omega
  · rw [List.filter_append, List.filter_append, List.length_append, List.length_append]
    have a1 : ((flatsT t.flat (t.pair == 2)).filter fun x => x.fn != 0).length = 0 := by
      rw [List.length_eq_zero_iff, List.filter_eq_nil_iff]; intro x hx; simp [(fl _ x hx).2.2]
    have a3 : (P.filter fun x => x.fn != 0).length = 0 := by
      rw [List.length_eq_zero_iff, List.filter_eq_nil_iff]; intro x hx; simp [(hP1 x hx).2]
    have a2 := List.length_filter_le (fun x => x.fn != 0) G
    omega
  · have h1 : ∀ x ∈ flatsT t.flat (t.pair == 2), HdN x := fun x hx => (fl _ x hx).1
    have h2 : ∀ x ∈ P, HdN x := fun x hx => (hP1 x hx).1
    have h3 : ∀ x ∈ G, HdN x := fun x hx => (hG1 x hx).1
    rw [orow_app _ _ (fun x hx => (List.mem_append.1 hx).elim (h1 x) (h2 x)) h3, orow_app _ _ h1 h2, hP3, hG3]
theorem oneU_cases (l : List Ty) : (l = [] ∧ oneU l = ty0) ∨ (∃ x, l = [x] ∧ oneU l = x) ∨ (2 ≤ l.length ∧ oneU l = .mk false 0 (-1) l 0 []) := by
  match l with
  | [] => exact .inl ⟨rfl, rfl⟩
  | [x] => exact .inr (.inl ⟨x, rfl, rfl⟩)
  | a :: b :: r => exact .inr (.inr ⟨by simp, rfl⟩)
/-- what is parsed is the head of the type, or a union of parts that come to it -/
theorem un_cases (t : Ty) (ht : okTy t) : (unT t = hdU t ∧ HdT (hdU t)) ∨ (∃ l, Thin l ∧ 2 ≤ l.length ∧ l.length ≤ 8 ∧ unT t = .mk false 0 (-1) l 0 [] ∧ orow l = hdU t) := by
  rw [unT_eq]
  cases hall : t.all with
  | true =>
    rw [if_pos rfl]
    refine .inl ?_
    have e : hdU t = tyAll := by rw [all_eq ht hall]; simp [hdU, tyAll, Ty.all, Ty.flat, Ty.pair, Ty.pairs, Ty.fn, Ty.funs, unTs]
    rw [e]; exact ⟨rfl, by rfl⟩
  | false =>
    rw [if_neg (by simp)]
    obtain ⟨h1, h2⟩ := parts_thin t ht
    have e : hdU t = .mk false t.flat t.pair (unTs t.pairs) t.fn (unTs t.funs) := by unfold hdU; rw [hall]
    have hlen : (partsT t.flat t.pair (unTs t.pairs) t.fn (unTs t.funs)).length ≤ 8 := by
      have hb : ∀ (b : Bool) (x : Ty), (if b then [x] else []).length ≤ 1 := fun b x => by cases b <;> simp
      unfold partsT flatsT
      simp only [List.length_append]
      have a1 := hb (bitOf t.flat 1) (flatT 1)
      have a2 := hb (bitOf t.flat 2) (flatT 2)
      have a3 := hb (bitOf t.flat 4) (flatT 4)
      have a4 := hb (bitOf t.flat 8) (flatT 8)
      have a5 := hb (bitOf t.flat 16 && !(t.pair == 2)) (flatT 16)
      have a6 := hb (bitOf t.flat 32) (flatT 32)
      have a7 : (if t.pair = 1 then [Ty.mk false 0 1 (unTs t.pairs) 0 []] else if t.pair = 2 then (if bitOf t.flat 16 then [.mk false 16 2 (unTs t.pairs) 0 []] else [.mk false 0 2 (unTs t.pairs) 0 []]) else []).length ≤ 1 := by
        split
        · simp
        · split
          · split <;> simp
          · simp
      have a8 : (if t.fn = 1 then [Ty.mk false 0 0 [] 1 (unTs t.funs)] else if t.fn = 2 then [procT] else []).length ≤ 1 := by
        split
        · simp
        · split <;> simp
      omega
    rw [← e] at h2
    generalize partsT t.flat t.pair (unTs t.pairs) t.fn (unTs t.funs) = l at h1 h2 hlen ⊢
    rcases oneU_cases l with ⟨rfl, h⟩ | ⟨x, rfl, h⟩ | ⟨hl, h⟩
    · exact .inl ⟨h.trans (by rw [← h2]; rfl), by rw [← h2]; exact HdN.zero.1⟩
    · have hx := h1.hd x (List.mem_singleton.2 rfl)
      rw [orow_one hx] at h2
      exact .inl ⟨h.trans h2, by rw [← h2]; exact hx.1⟩
    · exact .inr ⟨l, h1, hl, hlen, h, h2⟩
end Go.Proofs.YtdjhjapfmbcmlaaDoor
namespace Go.Proofs.YtdjhjapfmbcmlaaDoor
open Go.RowKit

theorem parF_sym (s : List UInt8) : parF (symD s) = wordT s := by simp [symD, parF]
theorem parF_row (s : List UInt8) (l : List Dat) (ts : List Ty) (h : parL l = some ts) (hl : 0 < l.length) : parF (rowD s l) = formP s ts := by
  unfold rowD symD
  rw [parF, if_neg (by decide), if_pos rfl, parR, if_pos ⟨rfl, hl⟩, h]
theorem parL_app {l m : List Dat} {s t : List Ty} (h1 : parL l = some s) (h2 : parL m = some t) : parL (l ++ m) = some (s ++ t) := by
  induction l generalizing s with
  | nil => rw [parL] at h1; cases h1; exact h2
  | cons d r ih =>
    rw [parL] at h1
    rw [List.cons_append, parL]
    cases hd : parF d with
    | none => rw [hd] at h1; cases h1
    | some x =>
      rw [hd] at h1
      cases hr : parL r with
      | none => rw [hr] at h1; cases h1
      | some y =>
        rw [hr] at h1
        cases h1
        rw [ih hr]; rfl
theorem parL_one {d : Dat} {t : Ty} (h : parF d = some t) : parL [d] = some [t] := by rw [parL, h, parL]
theorem names_par (flat : Int) (nul : Bool) : parL (namesD flat nul) = some (flatsT flat nul) := by
  have e : ∀ (b : Bool) (s : List UInt8) (t : Ty), wordT s = some t → parL (if b then [symD s] else []) = some (if b then [t] else []) := by
    intro b s t h
    cases b with
    | true => exact parL_one (by rw [parF_sym]; exact h)
    | false => simp [parL]
  unfold namesD flatsT
  exact parL_app (parL_app (parL_app (parL_app (parL_app (e _ nInt (flatT 1) (by rfl)) (e _ nBool (flatT 2) (by rfl))) (e _ nStr (flatT 4) (by rfl))) (e _ nSym (flatT 8) (by rfl))) (e _ nNull (flatT 16) (by rfl))) (e _ nVoid (flatT 32) (by rfl))
theorem oneD_par {l : List Dat} {ts : List Ty} (h : parL l = some ts) : parF (oneD l) = some (oneU ts) := by
  match l, h with
  | [], h => rw [parL] at h; cases h; rw [oneD, parF_sym]; rfl
  | [d], h =>
    rw [parL, parL] at h
    cases hd : parF d with
    | none => rw [hd] at h; cases h
    | some t =>
      rw [hd] at h
      cases h
      exact hd
  | d :: e :: r, h =>
    have hl := (parL_get _ _ h).1
    show parF (rowD nU (d :: e :: r)) = _
    rw [parF_row _ _ _ h (by simp)]
    match ts, hl with
    | a :: b :: c, _ => rfl
    | [_], hl => simp at hl
    | [], hl => simp at hl
theorem toldL_par : ∀ (l : List Ty), (∀ x ∈ l, parF (toldT x) = some (unT x)) → parL (toldL l) = some (unTs l)
  | [], _ => by rw [toldL, parL, unTs]
  | t :: r, h => by
    rw [toldL, parL, h t (List.mem_cons_self ..), toldL_par r fun x hx => h x (List.mem_cons_of_mem _ hx), unTs]
theorem toldL_len' (l : List Ty) : (toldL l).length = l.length := by
  induction l with
  | nil => rfl
  | cons t r ih => rw [toldL, List.length_cons, List.length_cons, ih]
/-- a type's datum is parsed as the type whose unions are not joined -/
theorem par_told (t : Ty) (ht : okTy t) : parF (toldT t) = some (unT t) := by
  induction t using ty_ind with
  | h t ihp ihf =>
    rw [toldT_eq, unT_eq]
    cases hall : t.all with
    | true => rw [if_pos rfl, parF_sym]; rfl
    | false =>
    simp only [Bool.false_eq_true, ↓reduceIte]
    have pa := headP ht
    have rp := toldL_par t.pairs fun x hx => ihp x hx (ht.pair hx)
    have rf := toldL_par t.funs fun x hx => ihf x hx (ht.fun hx)
    refine oneD_par (parL_app (parL_app (names_par _ _) ?_) ?_)
    · have hl := pa.2.2.2.2.2.2.2.1
      have hn := toldL_len' t.pairs
      have hu := unTs_len t.pairs
      rcases pair_cases ht with h | h | h
      · simp only [if_neg (show ¬ t.pair = 1 by omega), if_neg (show ¬ t.pair = 2 by omega)]
        rw [parL]
      · rw [if_pos h] at hl
        simp only [if_pos h]
        refine parL_one ((parF_row _ _ _ rp (by omega)).trans ?_)
        unfold formP
        rw [if_neg (by decide), if_pos rfl, if_pos (by omega)]
      · rw [if_neg (by omega), if_pos h] at hl
        simp only [if_neg (show ¬ t.pair = 1 by omega), if_pos h]
        cases hb : bitOf t.flat 16 with
        | true =>
          simp only [↓reduceIte]
          refine parL_one ((parF_row _ _ _ rp (by omega)).trans ?_)
          unfold formP
          rw [if_neg (by decide), if_neg (by decide), if_pos rfl, if_pos (by omega)]
        | false =>
          simp only [Bool.false_eq_true, ↓reduceIte]
          refine parL_one ((parF_row _ _ _ rp (by omega)).trans ?_)
          unfold formP
          rw [if_neg (by decide), if_neg (by decide), if_neg (by decide), if_pos rfl, if_pos (by omega)]
    · rcases fn_cases ht with h | h | h
      · simp only [if_neg (show ¬ t.fn = 1 by omega), if_neg (show ¬ t.fn = 2 by omega)]
        rw [parL]
      · have hl := pa.2.2.2.2.2.2.2.2.2 h
        have hn := toldL_len' t.funs
        have hu := unTs_len t.funs
        simp only [if_pos h]
        refine parL_one ((parF_row _ _ _ rf (by omega)).trans ?_)
        unfold formP
        rw [if_neg (by decide), if_neg (by decide), if_neg (by decide), if_neg (by decide), if_pos rfl, if_pos (by omega)]
      · simp only [if_neg (show ¬ t.fn = 1 by omega), if_pos h]
        exact parL_one (by rw [parF_sym]; rfl)

end Go.Proofs.YtdjhjapfmbcmlaaDoor
