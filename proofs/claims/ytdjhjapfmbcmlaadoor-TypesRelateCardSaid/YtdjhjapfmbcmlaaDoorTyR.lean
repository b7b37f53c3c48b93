import Derived.Test.YtdjhjapfmbcmlaaDoorTyJ
namespace Go.Proofs.YtdjhjapfmbcmlaaDoor
open Go.RowKit

/-- a datum -/
inductive Dat where
  | mk (kind : Int) (text : ByteArray) (list : List Dat)
def symD (s : List UInt8) : Dat := .mk 1 ⟨s.toArray⟩ []
def rowD (s : List UInt8) (l : List Dat) : Dat := .mk 5 ⟨#[]⟩ (symD s :: l)
abbrev nInt : List UInt8 := [73, 110, 116]
abbrev nBool : List UInt8 := [66, 111, 111, 108]
abbrev nStr : List UInt8 := [83, 116, 114]
abbrev nSym : List UInt8 := [83, 121, 109]
abbrev nNull : List UInt8 := [78, 117, 108, 108]
abbrev nVoid : List UInt8 := [86, 111, 105, 100]
abbrev nAny : List UInt8 := [65, 110, 121]
abbrev nProc : List UInt8 := [80, 114, 111, 99]
abbrev nNothing : List UInt8 := [78, 111, 116, 104, 105, 110, 103]
abbrev nPair : List UInt8 := [80, 97, 105, 114]
abbrev nList : List UInt8 := [76, 105, 115, 116]
abbrev nList1 : List UInt8 := [76, 105, 115, 116, 49]
abbrev nArrow : List UInt8 := [45, 62]
abbrev nU : List UInt8 := [85]
def flatT (b : Int) : Ty := .mk false b 0 [] 0 []
def procT : Ty := .mk false 0 0 [] 2 []
/-- the type of a symbol -/
def wordT (s : List UInt8) : Option Ty :=
  if s = nInt then some (flatT 1) else if s = nBool then some (flatT 2) else if s = nStr then some (flatT 4) else if s = nSym then some (flatT 8) else if s = nNull then some (flatT 16) else if s = nVoid then some (flatT 32) else
  if s = nAny then some tyAll else if s = nProc then some procT else if s = nNothing then some ty0 else none
/-- the type of a list that begins with a symbol -/
def formT (s : List UInt8) (l : List Ty) : Option Ty :=
  if s = nPair then (if l.length = 2 then some (.mk false 0 1 l 0 []) else none) else
  if s = nList1 then (if l.length = 1 then some (.mk false 0 2 l 0 []) else none) else
  if s = nList then (if l.length = 1 then some (.mk false 16 2 l 0 []) else none) else
  if s = nArrow then (if 1 ≤ l.length then some (.mk false 0 0 [] 1 l) else none) else
  if s = nU then some (l.foldl joinT ty0) else none
mutual
/-- the type of a datum -/
def readT : Dat → Option Ty
  | .mk k x l => if k = 1 then wordT x.data.toList else if k = 5 then readR l else none
def readR : List Dat → Option Ty
  | [] => none
  | .mk k x _ :: r => if k = 1 then (match readL r with | some l => formT x.data.toList l | none => none) else none
def readL : List Dat → Option (List Ty)
  | [] => some []
  | d :: r => match readT d, readL r with
    | some t, some l => some (t :: l)
    | _, _ => none
end
theorem readT_sym (s : List UInt8) : readT (symD s) = wordT s := by simp [symD, readT]
theorem readT_row (s : List UInt8) (l : List Dat) (ts : List Ty) (h : readL l = some ts) : readT (rowD s l) = formT s ts := by
  unfold rowD symD
  rw [readT, if_neg (by decide), if_pos rfl, readR, if_pos rfl, h]
/-- the names of flat tags -/
def namesD (flat : Int) (nul : Bool) : List Dat :=
  (if bitOf flat 1 then [symD nInt] else []) ++ (if bitOf flat 2 then [symD nBool] else []) ++ (if bitOf flat 4 then [symD nStr] else []) ++ (if bitOf flat 8 then [symD nSym] else []) ++ (if bitOf flat 16 && !nul then [symD nNull] else []) ++ (if bitOf flat 32 then [symD nVoid] else [])
/-- one datum of parts -/
def oneD (l : List Dat) : Dat := match l with
  | [] => symD nNothing
  | [d] => d
  | l => rowD nU l
mutual
/-- a type's datum -/
def toldT : Ty → Dat
  | .mk a f p ps g fs => if a then symD nAny else
    oneD (namesD f (p == 2) ++ (if p = 1 then [rowD nPair (toldL ps)] else if p = 2 then (if bitOf f 16 then [rowD nList (toldL ps)] else [rowD nList1 (toldL ps)]) else []) ++ (if g = 1 then [rowD nArrow (toldL fs)] else if g = 2 then [symD nProc] else []))
def toldL : List Ty → List Dat
  | [] => []
  | t :: r => toldT t :: toldL r
end
theorem toldT_eq (t : Ty) : toldT t = if t.all then symD nAny else
    oneD (namesD t.flat (t.pair == 2) ++ (if t.pair = 1 then [rowD nPair (toldL t.pairs)] else if t.pair = 2 then (if bitOf t.flat 16 then [rowD nList (toldL t.pairs)] else [rowD nList1 (toldL t.pairs)]) else []) ++ (if t.fn = 1 then [rowD nArrow (toldL t.funs)] else if t.fn = 2 then [symD nProc] else [])) := by
  cases t; rw [toldT]; rfl
theorem toldL_read : ∀ (l : List Ty), (∀ x ∈ l, readT (toldT x) = some x) → readL (toldL l) = some l
  | [], _ => by rw [toldL, readL]
  | t :: r, h => by
    rw [toldL, readL, h t (List.mem_cons_self ..), toldL_read r fun x hx => h x (List.mem_cons_of_mem _ hx)]
theorem readL_app {l m : List Dat} {s t : List Ty} (h1 : readL l = some s) (h2 : readL m = some t) : readL (l ++ m) = some (s ++ t) := by
  induction l generalizing s with
  | nil => rw [readL] at h1; cases h1; exact h2
  | cons d r ih =>
    rw [readL] at h1
    rw [List.cons_append, readL]
    cases hd : readT d with
    | none => rw [hd] at h1; cases h1
    | some x =>
      rw [hd] at h1
      cases hr : readL r with
      | none => rw [hr] at h1; cases h1
      | some y =>
        rw [hr] at h1
        cases h1
        rw [ih hr]; rfl
theorem readL_one {d : Dat} {t : Ty} (h : readT d = some t) : readL [d] = some [t] := by rw [readL, h, readL]
/-- the flat types of the names -/
def flatsT (flat : Int) (nul : Bool) : List Ty :=
  (if bitOf flat 1 then [flatT 1] else []) ++ (if bitOf flat 2 then [flatT 2] else []) ++ (if bitOf flat 4 then [flatT 4] else []) ++ (if bitOf flat 8 then [flatT 8] else []) ++ (if bitOf flat 16 && !nul then [flatT 16] else []) ++ (if bitOf flat 32 then [flatT 32] else [])
theorem names_read (flat : Int) (nul : Bool) : readL (namesD flat nul) = some (flatsT flat nul) := by
  have e : ∀ (b : Bool) (s : List UInt8) (t : Ty), wordT s = some t → readL (if b then [symD s] else []) = some (if b then [t] else []) := by
    intro b s t h
    cases b with
    | true => exact readL_one (by rw [readT_sym]; exact h)
    | false => simp [readL]
  unfold namesD flatsT
  exact readL_app (readL_app (readL_app (readL_app (readL_app (e _ nInt (flatT 1) (by rfl)) (e _ nBool (flatT 2) (by rfl))) (e _ nStr (flatT 4) (by rfl))) (e _ nSym (flatT 8) (by rfl))) (e _ nNull (flatT 16) (by rfl))) (e _ nVoid (flatT 32) (by rfl))
/-- a datum of parts is read as the join of their types -/
theorem oneD_read {l : List Dat} {ts : List Ty} (h : readL l = some ts) (hok : ∀ t ∈ ts, joinT ty0 t = t) : readT (oneD l) = some (ts.foldl joinT ty0) := by
  match l, h with
  | [], h => rw [readL] at h; cases h; rw [oneD, readT_sym]; rfl
  | [d], h =>
    rw [readL, readL] at h
    cases hd : readT d with
    | none => rw [hd] at h; cases h
    | some t =>
      rw [hd] at h
      cases h
      show readT d = some (joinT ty0 t)
      rw [hd, hok t (List.mem_singleton.2 rfl)]
  | d :: e :: r, h =>
    show readT (rowD nU (d :: e :: r)) = _
    rw [readT_row _ _ _ h]; rfl
theorem none_join (a : Ty) (ha : okTy a) : joinT ty0 a = a := by
  cases h1 : a.all with
  | true => rw [join_all ok0 ha (.inr h1)]; exact (all_eq ha h1).symm
  | false =>
  obtain ⟨j1, j2, j3, j4, j5, j6⟩ := join_form ok0 ha rfl h1
  have pa := headP ha
  refine Ty.ext' (j1.trans h1.symm) (j2.trans ?_) j3 j4 j5 j6
  rw [fj_comm (by show (0 : Int) ≤ 0; omega) (by show (0 : Int) ≤ 63; omega) pa.1 pa.2.1]
  exact fj_zero pa.1 pa.2.1
/-- joins of types of flat tags, pairs and procedures alone -/
theorem join_flat {f g : Int} : joinT (flatT f) (flatT g) = flatT (flatJoin f g) := rfl
def bitsL (flat : Int) (nul : Bool) : List Int :=
  (if bitOf flat 1 then [1] else []) ++ (if bitOf flat 2 then [2] else []) ++ (if bitOf flat 4 then [4] else []) ++ (if bitOf flat 8 then [8] else []) ++ (if bitOf flat 16 && !nul then [16] else []) ++ (if bitOf flat 32 then [32] else [])
theorem flatsT_map (flat : Int) (nul : Bool) : flatsT flat nul = (bitsL flat nul).map flatT := by
  have e : ∀ (b : Bool) (x : Int), (if b then [flatT x] else []) = (if b then [x] else []).map flatT := by intro b x; cases b <;> rfl
  unfold flatsT bitsL
  simp only [List.map_append, ← e]
theorem fold_flat (l : List Int) (a : Int) : (l.map flatT).foldl joinT (flatT a) = flatT (l.foldl flatJoin a) := by
  induction l generalizing a with
  | nil => rfl
  | cons b r ih => rw [List.map_cons, List.foldl_cons, join_flat, ih]; rfl
theorem bits_all : ∀ F, F < 64 → (bitsL ((F : Nat) : Int) false).foldl flatJoin 0 = F := by decide +kernel
theorem bits_null : ∀ F, F < 64 → (bitsL ((F : Nat) : Int) true).foldl flatJoin 0 = (F : Int) - (if bitOf ((F : Nat) : Int) 16 then 16 else 0) := by decide +kernel
theorem bits_back : ∀ F, F < 64 → bitOf ((F : Nat) : Int) 16 = true → 0 ≤ (F : Int) - 16 ∧ flatJoin ((F : Int) - 16) 16 = F := by decide +kernel
theorem bits_mem : ∀ F, F < 64 → ∀ b ∈ bitsL ((F : Nat) : Int) false ++ bitsL ((F : Nat) : Int) true, (1 : Int) ≤ b ∧ b ≤ 63 := by decide +kernel
theorem ok_flat {f : Int} (h0 : 0 ≤ f) (h1 : f ≤ 63) : okTy (flatT f) := by
  refine okTy.mk ?_ (fun x hx => by cases hx) (fun x hx => by cases hx)
  refine decide_eq_true ⟨h0, h1, by show (0 : Int) ≤ 0; omega, by show (0 : Int) ≤ 2; omega, by show (0 : Int) ≤ 0; omega, by show (0 : Int) ≤ 2; omega, (fun h => by cases h), rfl, (fun _ => rfl), fun h => by cases h⟩
/-- the pairs of a type, alone (and the empty list where it is there) -/
theorem join_pairs {f q p : Int} {ps : List Ty} (h0 : 0 ≤ f) (h1 : f ≤ 63) (hq : okTy (.mk false q p ps 0 [])) : joinT (flatT f) (.mk false q p ps 0 []) = .mk false (flatJoin f q) p ps 0 [] := by
  obtain ⟨j1, j2, j3, j4, j5, j6⟩ := join_form (ok_flat h0 h1) hq rfl rfl
  exact Ty.ext' j1 j2 j3 j4 j5 j6
/-- and its procedures -/
theorem join_funs {f p g : Int} {ps fs : List Ty} (ha : okTy (.mk false f p ps 0 [])) (hb : okTy (.mk false 0 0 [] g fs)) : joinT (.mk false f p ps 0 []) (.mk false 0 0 [] g fs) = .mk false f p ps g fs := by
  obtain ⟨j1, j2, j3, j4, j5, j6⟩ := join_form ha hb rfl rfl
  have pa := headP ha
  refine Ty.ext' j1 (j2.trans (fj_zero pa.1 pa.2.1)) (j3.trans ?_) (j4.trans ?_) j5 j6
  · show (if p = 0 then (0 : Int) else if (0 : Int) = 0 then p else _) = p
    by_cases h : p = 0
    · rw [if_pos h]; exact h.symm
    · rw [if_neg h, if_pos rfl]
  · show (if p = 0 then ([] : List Ty) else if (0 : Int) = 0 then ps else _) = ps
    by_cases h : p = 0
    · rw [if_pos h]; exact (pair0 ha h).symm
    · rw [if_neg h, if_pos rfl]
/-- a type is read as it was told -/
theorem read_told (t : Ty) (ht : okTy t) : readT (toldT t) = some t := by
  induction t using ty_ind with
  | h t ihp ihf =>
    rw [toldT_eq]
    cases hall : t.all with
    | true => rw [if_pos rfl, readT_sym, all_eq ht hall]; rfl
    | false =>
    rw [if_neg (by simp)]
    have pa := headP ht
    have rp := toldL_read t.pairs fun x hx => ihp x hx (ht.pair hx)
    have rf := toldL_read t.funs fun x hx => ihf x hx (ht.fun hx)
    obtain ⟨F, hF⟩ : ∃ F : Nat, t.flat = F := ⟨t.flat.toNat, by omega⟩
    have hF6 : F < 64 := by omega
    have okp : ∀ q : Int, 0 ≤ q → q ≤ 63 → okTy (.mk false q t.pair t.pairs 0 []) := fun q h0 h1 =>
      okTy.mk (decide_eq_true ⟨h0, h1, pa.2.2.1, pa.2.2.2.1, by show (0 : Int) ≤ 0; omega, by show (0 : Int) ≤ 2; omega, (fun h => by cases h), pa.2.2.2.2.2.2.2.1, (fun _ => rfl), fun h => by cases h⟩) (fun x hx => ht.pair hx) (fun x hx => by cases hx)
    have okf : okTy (.mk false 0 0 [] t.fn t.funs) :=
      okTy.mk (decide_eq_true ⟨by show (0 : Int) ≤ 0; omega, by show (0 : Int) ≤ 63; omega, by show (0 : Int) ≤ 0; omega, by show (0 : Int) ≤ 2; omega, pa.2.2.2.2.1, pa.2.2.2.2.2.1, (fun h => by cases h), rfl, pa.2.2.2.2.2.2.2.2.1, pa.2.2.2.2.2.2.2.2.2⟩) (fun x hx => by cases hx) (fun x hx => ht.fun hx)
    -- the flat tags
    have hflat : ∀ nul, readL (namesD t.flat nul) = some ((bitsL F nul).map flatT) := fun nul => by rw [names_read, flatsT_map, hF]
    have hfok : ∀ nul, ∀ x ∈ (bitsL F nul).map flatT, joinT ty0 x = x := by
      intro nul x hx
      obtain ⟨b, hb, rfl⟩ := List.mem_map.1 hx
      have := bits_mem F hF6 b (by cases nul; exact List.mem_append_left _ hb; exact List.mem_append_right _ hb)
      exact none_join _ (ok_flat (by omega) this.2)
    -- the pairs
    obtain ⟨P, hP, hPok, hPfold⟩ : ∃ P : List Ty, readL (if t.pair = 1 then [rowD nPair (toldL t.pairs)] else if t.pair = 2 then (if bitOf t.flat 16 then [rowD nList (toldL t.pairs)] else [rowD nList1 (toldL t.pairs)]) else []) = some P ∧ (∀ x ∈ P, joinT ty0 x = x) ∧
        P.foldl joinT (((bitsL F (t.pair == 2)).map flatT).foldl joinT ty0) = .mk false F t.pair t.pairs 0 [] := by
      have e0 : ty0 = flatT 0 := rfl
      rw [e0, fold_flat]
      rcases pair_cases ht with h | h | h
      · refine ⟨[], by rw [if_neg (by omega), if_neg (by omega), readL], (fun x hx => by cases hx), ?_⟩
        rw [List.foldl_nil, h, pair0 ht h, show ((0 : Int) == 2) = false from rfl, bits_all F hF6]; rfl
      · have hl := pa.2.2.2.2.2.2.2.1
        rw [if_pos h] at hl
        have hq := okp 0 (by omega) (by omega)
        refine ⟨[.mk false 0 t.pair t.pairs 0 []], ?_, fun x hx => ?_, ?_⟩
        · rw [if_pos h]
          refine readL_one ((readT_row _ _ _ rp).trans ?_)
          unfold formT
          rw [if_pos rfl, if_pos (by omega), h]
        · rw [List.mem_singleton.1 hx]; exact none_join _ hq
        · rw [List.foldl_cons, List.foldl_nil, show (t.pair == 2) = false by rw [h]; rfl, bits_all F hF6, join_pairs (by omega) (by omega) hq, fj_zero (by omega) (by omega)]
      · have hl := pa.2.2.2.2.2.2.2.1
        rw [if_neg (by omega), if_pos h] at hl
        cases hb : bitOf t.flat 16 with
        | true =>
          have hq := okp 16 (by omega) (by omega)
          have hb2 := bits_back F hF6 (by rw [← hF]; exact hb)
          refine ⟨[.mk false 16 t.pair t.pairs 0 []], ?_, fun x hx => ?_, ?_⟩
          · rw [if_neg (by omega), if_pos h, if_pos rfl]
            refine readL_one ((readT_row _ _ _ rp).trans ?_)
            unfold formT
            rw [if_neg (by decide), if_neg (by decide), if_pos rfl, if_pos (by omega), h]
          · rw [List.mem_singleton.1 hx]; exact none_join _ hq
          · rw [List.foldl_cons, List.foldl_nil, show (t.pair == 2) = true by rw [h]; rfl, bits_null F hF6, if_pos (by rw [← hF]; exact hb), join_pairs hb2.1 (by omega) hq, hb2.2]
        | false =>
          have hq := okp 0 (by omega) (by omega)
          refine ⟨[.mk false 0 t.pair t.pairs 0 []], ?_, fun x hx => ?_, ?_⟩
          · rw [if_neg (by omega), if_pos h, if_neg (by simp)]
            refine readL_one ((readT_row _ _ _ rp).trans ?_)
            unfold formT
            rw [if_neg (by decide), if_pos rfl, if_pos (by omega), h]
          · rw [List.mem_singleton.1 hx]; exact none_join _ hq
          · rw [List.foldl_cons, List.foldl_nil, show (t.pair == 2) = true by rw [h]; rfl, bits_null F hF6, if_neg (by rw [← hF, hb]; simp), Int.sub_zero, join_pairs (by omega) (by omega) hq, fj_zero (by omega) (by omega)]
    -- the procedures
    obtain ⟨G, hG, hGok, hGfold⟩ : ∃ G : List Ty, readL (if t.fn = 1 then [rowD nArrow (toldL t.funs)] else if t.fn = 2 then [symD nProc] else []) = some G ∧ (∀ x ∈ G, joinT ty0 x = x) ∧ G.foldl joinT (.mk false F t.pair t.pairs 0 []) = t := by
      have et : t = .mk false F t.pair t.pairs t.fn t.funs := by
        have := t.eta
        rw [hall, hF] at this
        exact this
      have oka := okp F (by omega) (by omega)
      rcases fn_cases ht with h | h | h
      · refine ⟨[], by rw [if_neg (by omega), if_neg (by omega), readL], (fun x hx => by cases hx), ?_⟩
        rw [List.foldl_nil]
        conv => rhs; rw [et, h, fn_none ht (by omega)]
      · have hl := pa.2.2.2.2.2.2.2.2.2 h
        refine ⟨[.mk false 0 0 [] t.fn t.funs], ?_, fun x hx => ?_, ?_⟩
        · rw [if_pos h]
          refine readL_one ((readT_row _ _ _ rf).trans ?_)
          unfold formT
          rw [if_neg (by decide), if_neg (by decide), if_neg (by decide), if_pos rfl, if_pos hl.1, h]
        · rw [List.mem_singleton.1 hx]; exact none_join _ okf
        · rw [List.foldl_cons, List.foldl_nil, join_funs oka okf]; exact et.symm
      · refine ⟨[.mk false 0 0 [] t.fn t.funs], ?_, fun x hx => ?_, ?_⟩
        · rw [if_neg (by omega), if_pos h]
          refine readL_one ((readT_sym _).trans ?_)
          rw [h, fn_none ht (by omega)]; rfl
        · rw [List.mem_singleton.1 hx]; exact none_join _ okf
        · rw [List.foldl_cons, List.foldl_nil, join_funs oka okf]; exact et.symm
    rw [oneD_read (readL_app (readL_app (hflat _) hP) hG) (fun x hx => ?_), List.foldl_append, List.foldl_append, hPfold, hGfold]
    rcases List.mem_append.1 hx with hx | hx
    · rcases List.mem_append.1 hx with hx | hx
      · exact hfok _ x hx
      · exact hPok x hx
    · exact hGok x hx
end Go.Proofs.YtdjhjapfmbcmlaaDoor
