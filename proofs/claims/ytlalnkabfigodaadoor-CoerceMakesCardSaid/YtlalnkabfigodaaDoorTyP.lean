import Derived.Test.YtlalnkabfigodaaDoorProg
import Derived.Lib.Hide
import Derived.Below
import Derived.ProofKit
namespace Go.Proofs.YtlalnkabfigodaaDoor
open Go.RowKit

/-- a type -/
inductive Ty where
 | mk (all : Bool) (flat pair : Int) (pairs : List Ty) (fn : Int) (funs : List Ty)
def Ty.all : Ty → Bool | .mk a _ _ _ _ _ => a
def Ty.flat : Ty → Int | .mk _ f _ _ _ _ => f
def Ty.pair : Ty → Int | .mk _ _ p _ _ _ => p
def Ty.pairs : Ty → List Ty | .mk _ _ _ l _ _ => l
def Ty.fn : Ty → Int | .mk _ _ _ _ f _ => f
def Ty.funs : Ty → List Ty | .mk _ _ _ _ _ l => l
def ty0 : Ty := .mk false 0 0 [] 0 []
def tyAll : Ty := .mk true 0 0 [] 0 []
theorem Ty.eta (t : Ty) : t = .mk t.all t.flat t.pair t.pairs t.fn t.funs := by cases t; rfl
theorem Ty.ext' {a b : Ty} (h1 : a.all = b.all) (h2 : a.flat = b.flat) (h3 : a.pair = b.pair) (h4 : a.pairs = b.pairs) (h5 : a.fn = b.fn) (h6 : a.funs = b.funs) : a = b := by
 rw [a.eta, b.eta, h1, h2, h3, h4, h5, h6]

mutual
/-- how many there are -/
def szT : Ty → Nat
 | .mk _ _ _ p _ f => 1 + szTs p + szTs f
def szTs : List Ty → Nat
 | [] => 0
 | d :: r => szT d + szTs r
end
theorem szT_eq (t : Ty) : szT t = 1 + szTs t.pairs + szTs t.funs := by cases t; simp [szT, Ty.pairs, Ty.funs]
theorem szT_pos (t : Ty) : 0 < szT t := by rw [szT_eq]; omega
theorem szTs_get : ∀ (l : List Ty) (j : Nat), j < l.length → szT (l.getD j ty0) ≤ szTs l
 | [], j, h => by simp at h
 | d :: r, 0, _ => by simp only [szTs, List.getD_cons_zero]; omega
 | d :: r, j + 1, h => by
  have := szTs_get r j (by simpa using h)
  simp only [szTs, List.getD_cons_succ]; omega
theorem szTs_mem {l : List Ty} {d : Ty} (h : d ∈ l) : szT d ≤ szTs l := by
 obtain ⟨j, hj, rfl⟩ := List.getElem_of_mem h
 have := szTs_get l j hj
 simpa [List.getD_eq_getElem?_getD, hj] using this
theorem szT_pairs {t d : Ty} (h : d ∈ t.pairs) : szT d < szT t := by have := szTs_mem h; rw [szT_eq t]; omega
theorem szT_funs {t d : Ty} (h : d ∈ t.funs) : szT d < szT t := by have := szTs_mem h; rw [szT_eq t]; omega
theorem getT_mem {l : List Ty} {j : Nat} (h : j < l.length) : l.getD j ty0 ∈ l := by
 rw [List.getD_eq_getElem?_getD, List.getElem?_eq_getElem h]; exact List.getElem_mem h
theorem szT_pair (t : Ty) (j : Nat) (h : j < t.pairs.length) : szT (t.pairs.getD j ty0) < szT t := szT_pairs (getT_mem h)
theorem szT_fun (t : Ty) (j : Nat) (h : j < t.funs.length) : szT (t.funs.getD j ty0) < szT t := szT_funs (getT_mem h)
/-- by induction on the size -/
theorem ty_ind {P : Ty → Prop} (h : ∀ t, (∀ x ∈ t.pairs, P x) → (∀ x ∈ t.funs, P x) → P t) (t : Ty) : P t := by
 have key : ∀ n t, szT t ≤ n → P t := by
  intro n
  induction n with
  | zero => intro t ht; have := szT_pos t; omega
  | succ n ih => intro t ht; exact h t (fun x hx => ih x (by have := szT_pairs hx; omega)) fun x hx => ih x (by have := szT_funs hx; omega)
 exact key _ t (Nat.le_refl _)

mutual
/-- are two types the same? -/
def sameT : Ty → Ty → Bool
 | .mk a f p l g m, .mk a' f' p' l' g' m' => a == a' && f == f' && p == p' && g == g' && samesT l l' && samesT m m'
def samesT : List Ty → List Ty → Bool
 | [], [] => true
 | a :: r, b :: s => sameT a b && samesT r s
 | _, _ => false
end
theorem sameT_eq (a b : Ty) : sameT a b = (a.all == b.all && a.flat == b.flat && a.pair == b.pair && a.fn == b.fn && samesT a.pairs b.pairs && samesT a.funs b.funs) := by
 cases a; cases b; simp [sameT, Ty.all, Ty.flat, Ty.pair, Ty.fn, Ty.pairs, Ty.funs]
theorem samesT_iff : ∀ (l m : List Ty), samesT l m = true ↔ l.length = m.length ∧ ∀ j, j < l.length → sameT (l.getD j ty0) (m.getD j ty0) = true
 | [], [] => by simp [samesT]
 | a :: r, b :: s => by
  simp only [samesT, Bool.and_eq_true, samesT_iff r s, List.length_cons]
  constructor
  ·
   rintro ⟨h1, h2, h3⟩
   refine ⟨by omega, fun j hj => ?_⟩
   cases j with
   | zero => simpa using h1
   | succ j => simpa using h3 j (by omega)
  ·
   rintro ⟨h1, h2⟩
   refine ⟨by simpa using h2 0 (by omega), by omega, fun j hj => by simpa using h2 (j + 1) (by omega)⟩
 | [], b :: s => by simp [samesT]
 | a :: r, [] => by simp [samesT]
theorem samesT_of {l m : List Ty} (h : ∀ x ∈ l, ∀ y, sameT x y = true ↔ x = y) : samesT l m = true ↔ l = m := by
 induction l generalizing m with
 | nil => cases m <;> simp [samesT]
 | cons a r ih =>
  cases m with
  | nil => simp [samesT]
  | cons b s => simp only [samesT, Bool.and_eq_true, h a (List.mem_cons_self ..) b, ih fun x hx => h x (List.mem_cons_of_mem _ hx), List.cons.injEq]
/-- they are the same just if they are equal -/
theorem sameT_iff (a b : Ty) : sameT a b = true ↔ a = b := by
 induction a using ty_ind generalizing b with
 | h t h1 h2 =>
  rw [sameT_eq]
  simp only [Bool.and_eq_true, beq_iff_eq, samesT_of h1, samesT_of h2]
  constructor
  ·
   rintro ⟨⟨⟨⟨⟨a1, a2⟩, a3⟩, a4⟩, a5⟩, a6⟩
   exact Ty.ext' a1 a2 a3 a5 a4 a6
  ·
   rintro rfl
   exact ⟨⟨⟨⟨⟨rfl, rfl⟩, rfl⟩, rfl⟩, rfl⟩, rfl⟩
theorem samesT_eq (l m : List Ty) : samesT l m = true ↔ l = m := samesT_of fun x _ y => sameT_iff x y

/-- the document's measure: no more than 1000, no deeper than n -/
def sizeS : Nat → Ty → Nat
 | 0, _ => 1000
 | n + 1, t => min ((t.funs).foldl (fun m x => if m < 1000 then m + sizeS n x else m) ((t.pairs).foldl (fun m x => if m < 1000 then m + sizeS n x else m) 1)) 1000
def sumS (n a : Nat) (l : List Ty) : Nat := l.foldl (fun m x => if m < 1000 then m + sizeS n x else m) a
theorem sizeS_succ (n : Nat) (t : Ty) : sizeS (n + 1) t = min (sumS n (sumS n 1 t.pairs) t.funs) 1000 := rfl
theorem sumS_cons (n a : Nat) (d : Ty) (r : List Ty) : sumS n a (d :: r) = sumS n (if a < 1000 then a + sizeS n d else a) r := rfl
theorem sumS_nil (n a : Nat) : sumS n a [] = a := rfl
theorem sizeS_le (n : Nat) (t : Ty) : sizeS n t ≤ 1000 := by
 cases n with
 | zero => exact Nat.le_refl _
 | succ n => rw [sizeS_succ]; omega
theorem sumS_snoc (n a : Nat) (l : List Ty) (k : Nat) (h : k < l.length) : sumS n a (l.take (k + 1)) = if sumS n a (l.take k) < 1000 then sumS n a (l.take k) + sizeS n (l.getD k ty0) else sumS n a (l.take k) := by
 unfold sumS
 rw [List.take_succ_eq_append_getElem h, List.foldl_append]
 simp [List.getD_eq_getElem?_getD, h]
theorem sumS_stop (n : Nat) : ∀ (l : List Ty) (a : Nat), 1000 ≤ a → sumS n a l = a
 | [], a, _ => rfl
 | d :: r, a, h => by rw [sumS_cons, if_neg (by omega)]; exact sumS_stop n r a h
theorem sumS_take (n a k : Nat) (l : List Ty) (h : 1000 ≤ sumS n a (l.take k)) : sumS n a l = sumS n a (l.take k) := by
 have e : sumS n a l = sumS n (sumS n a (l.take k)) (l.drop k) := by
  unfold sumS
  rw [← List.foldl_append, List.take_append_drop]
 rw [e, sumS_stop n _ _ h]
theorem sumS_le (n : Nat) : ∀ (l : List Ty) (a : Nat), a < 2000 → sumS n a l < 2000
 | [], a, h => h
 | d :: r, a, h => by
  rw [sumS_cons]
  refine sumS_le n r _ ?_
  have := sizeS_le n d
  split <;> omega
def lightT (t : Ty) : Bool := decide (sizeS 60 t < 120)
/-- a type's own fields may be -/
def headOK (t : Ty) : Bool := decide (0 ≤ t.flat ∧ t.flat ≤ 63 ∧ 0 ≤ t.pair ∧ t.pair ≤ 2 ∧ 0 ≤ t.fn ∧ t.fn ≤ 2 ∧ (t.all = true → t.flat = 0 ∧ t.pair = 0 ∧ t.fn = 0) ∧
 (t.pairs.length : Int) = (if t.pair = 1 then 2 else if t.pair = 2 then 1 else 0) ∧ (t.fn ≠ 1 → t.funs.length = 0) ∧ (t.fn = 1 → 1 ≤ t.funs.length ∧ t.funs.length ≤ 9))
def deepF : Nat → Ty → Bool
 | 0, _ => false
 | n + 1, t => headOK t && t.pairs.all (deepF n) && t.funs.all (deepF n)
theorem deepF_succ (n : Nat) (t : Ty) : deepF (n + 1) t = (headOK t && t.pairs.all (deepF n) && t.funs.all (deepF n)) := rfl
def rightT (t : Ty) : Bool := decide (sizeS 60 t ≤ 300) && deepF 20 t
/-- a type that may be, whatever its depth and its size -/
def okTy (t : Ty) : Prop := ∃ n, deepF n t = true
theorem okTy.mono' {n : Nat} : ∀ {t : Ty}, deepF n t = true → ∀ m, n ≤ m → deepF m t = true := by
 induction n with
 | zero => intro t h; cases h
 | succ n ih =>
  intro t h m hm
  obtain ⟨m, rfl⟩ : ∃ k, m = k + 1 := ⟨m - 1, by omega⟩
  rw [deepF_succ, Bool.and_eq_true, Bool.and_eq_true, List.all_eq_true, List.all_eq_true] at h ⊢
  exact ⟨⟨h.1.1, fun x hx => ih (h.1.2 x hx) m (by omega)⟩, fun x hx => ih (h.2 x hx) m (by omega)⟩
theorem okTy.head {t : Ty} (h : okTy t) : headOK t = true := by
 obtain ⟨n, h⟩ := h
 cases n with
 | zero => cases h
 | succ n => rw [deepF_succ, Bool.and_eq_true, Bool.and_eq_true] at h; exact h.1.1
theorem okTy.pair {t d : Ty} (h : okTy t) (hd : d ∈ t.pairs) : okTy d := by
 obtain ⟨n, h⟩ := h
 cases n with
 | zero => cases h
 | succ n => rw [deepF_succ, Bool.and_eq_true, Bool.and_eq_true, List.all_eq_true] at h; exact ⟨n, h.1.2 d hd⟩
theorem okTy.fun {t d : Ty} (h : okTy t) (hd : d ∈ t.funs) : okTy d := by
 obtain ⟨n, h⟩ := h
 cases n with
 | zero => cases h
 | succ n => rw [deepF_succ, Bool.and_eq_true, Bool.and_eq_true, List.all_eq_true, List.all_eq_true] at h; exact ⟨n, h.2 d hd⟩
theorem okTy_max : ∀ (l : List Ty), (∀ x ∈ l, okTy x) → ∃ n, ∀ x ∈ l, deepF n x = true
 | [], _ => ⟨0, fun x hx => by cases hx⟩
 | d :: r, h => by
  obtain ⟨n, hn⟩ := okTy_max r fun x hx => h x (List.mem_cons_of_mem _ hx)
  obtain ⟨m, hm⟩ := h d (List.mem_cons_self ..)
  refine ⟨max n m, fun x hx => ?_⟩
  rcases List.mem_cons.1 hx with rfl | hx
  ·
   exact okTy.mono' hm _ (by omega)
  ·
   exact okTy.mono' (hn x hx) _ (by omega)
theorem okTy.mk {t : Ty} (h : headOK t = true) (hp : ∀ x ∈ t.pairs, okTy x) (hf : ∀ x ∈ t.funs, okTy x) : okTy t := by
 obtain ⟨n, hn⟩ := okTy_max _ hp
 obtain ⟨m, hm⟩ := okTy_max _ hf
 refine ⟨max n m + 1, ?_⟩
 rw [deepF_succ, h, Bool.true_and, Bool.and_eq_true, List.all_eq_true, List.all_eq_true]
 exact ⟨fun x hx => okTy.mono' (hn x hx) _ (by omega), fun x hx => okTy.mono' (hm x hx) _ (by omega)⟩
theorem right_ok {t : Ty} (h : rightT t = true) : okTy t := by
 unfold rightT at h
 rw [Bool.and_eq_true] at h
 exact ⟨20, h.2⟩

/-- the type of the cars -/
def carT (t : Ty) : Ty := if t.all then tyAll else if t.pair = 0 ∨ t.pairs.length = 0 then ty0 else t.pairs.getD 0 ty0
def carB (t : Ty) : Bool := t.all || !(decide (t.pair = 0 ∨ t.pairs.length = 0))
def listT (t : Ty) : Ty := .mk false 16 2 [t] 0 []
/-- the type of the cdrs -/
def cdrT (t : Ty) : Ty := if t.all then tyAll else if t.pair = 2 ∧ 0 < t.pairs.length then listT (t.pairs.getD 0 ty0) else if t.pair = 1 ∧ 1 < t.pairs.length then t.pairs.getD 1 ty0 else ty0
def cdrB (t : Ty) : Bool := t.all || (decide (t.pair = 2 ∧ 0 < t.pairs.length) || decide (t.pair = 1 ∧ 1 < t.pairs.length))
theorem szT_list (t : Ty) : szT (listT t) = 1 + szT t := by simp [listT, szT, szTs]
/-- what is in a flat tag's bit -/
def bitOf (f bit : Int) : Bool := (f.tdiv bit).tmod 2 == 1
def flatSub (f g : Int) : Bool := [1, 2, 4, 8, 16, 32].all fun b => !(bitOf f b && (g.tdiv b).tmod 2 == 0)
def flatJoin (f g : Int) : Int := ([1, 2, 4, 8, 16, 32] : List Int).foldl (fun s b => if bitOf f b || bitOf g b then s + b else s) 0
/-- is one of the other? of so many steps -/
def subF : Nat → Ty → Ty → Bool
 | 0, _, _ => false
 | n + 1, a, b => b.all || (!a.all && flatSub a.flat b.flat &&
   (a.pair == 0 || (b.pair != 0 && subF n (carT a) (carT b) && (!(a.pair == 1 || b.pair == 1) || subF n (cdrT a) (cdrT b)))) &&
   (a.fn == 0 || b.fn == 2 || (b.fn != 0 && a.fn != 2 && a.funs.length == b.funs.length &&
    ((List.range (a.funs.length - 1)).all fun i => subF n (b.funs.getD i ty0) (a.funs.getD i ty0)) && subF n (a.funs.getD (a.funs.length - 1) ty0) (b.funs.getD (a.funs.length - 1) ty0))))
def subT (a b : Ty) : Bool := subF (szT a + szT b) a b
/-- what is of both, of so many steps -/
def joinF : Nat → Ty → Ty → Ty
 | 0, _, _ => ty0
 | n + 1, a, b => if a.all || b.all then tyAll else
  .mk false (flatJoin a.flat b.flat)
   (if a.pair = 0 then b.pair else if b.pair = 0 then a.pair else if a.pair = 1 ∨ b.pair = 1 then 1 else a.pair)
   (if a.pair = 0 then b.pairs else if b.pair = 0 then a.pairs else if a.pair = 1 ∨ b.pair = 1 then [joinF n (carT a) (carT b), joinF n (cdrT a) (cdrT b)] else [joinF n (carT a) (carT b)])
   (if a.fn = 0 then b.fn else if b.fn = 0 then a.fn else if a.fn = b.fn ∧ samesT a.funs b.funs = true then a.fn else 2)
   (if a.fn = 0 then b.funs else if b.fn = 0 then a.funs else if a.fn = b.fn ∧ samesT a.funs b.funs = true then a.funs else [])
def joinT (a b : Ty) : Ty := joinF (szT a + szT b) a b
end Go.Proofs.YtlalnkabfigodaaDoor
