import Derived.Test.YtlalnkabfigodaaDoorTyP
namespace Go.Proofs.YtlalnkabfigodaaDoor
open Go.RowKit

/-- a coercion's own fields: of the six flat tags; of pairs, and a label; of procedures, and a label -/
structure Hd where
 f0 : Int
 f1 : Int
 f2 : Int
 f3 : Int
 f4 : Int
 f5 : Int
 pair : Int
 pl : Int
 fn : Int
 fl : Int
theorem Hd.ext' {a b : Hd} (h : a.f0 = b.f0 ∧ a.f1 = b.f1 ∧ a.f2 = b.f2 ∧ a.f3 = b.f3 ∧ a.f4 = b.f4 ∧ a.f5 = b.f5 ∧ a.pair = b.pair ∧ a.pl = b.pl ∧ a.fn = b.fn ∧ a.fl = b.fl) : a = b := by
 cases a; cases b
 simp only at h
 obtain ⟨rfl, rfl, rfl, rfl, rfl, rfl, rfl, rfl, rfl, rfl⟩ := h
 rfl
instance (a b : Hd) : Decidable (a = b) :=
 decidable_of_iff (a.f0 = b.f0 ∧ a.f1 = b.f1 ∧ a.f2 = b.f2 ∧ a.f3 = b.f3 ∧ a.f4 = b.f4 ∧ a.f5 = b.f5 ∧ a.pair = b.pair ∧ a.pl = b.pl ∧ a.fn = b.fn ∧ a.fl = b.fl) ⟨Hd.ext', fun h => by subst h; simp⟩
def hd0 : Hd := ⟨0, 0, 0, 0, 0, 0, 0, 0, 0, 0⟩
def Hd.flat (h : Hd) : List Int := [h.f0, h.f1, h.f2, h.f3, h.f4, h.f5]
/-- a coercion -/
inductive Co where
 | mk (h : Hd) (pairs funs : List Co)
def Co.h : Co → Hd | .mk a _ _ => a
def Co.pairs : Co → List Co | .mk _ a _ => a
def Co.funs : Co → List Co | .mk _ _ a => a
def co0 : Co := .mk hd0 [] []
theorem Co.eta (c : Co) : c = .mk c.h c.pairs c.funs := by cases c; rfl
theorem Co.ext' {a b : Co} (h1 : a.h = b.h) (h2 : a.pairs = b.pairs) (h3 : a.funs = b.funs) : a = b := by rw [a.eta, b.eta, h1, h2, h3]

mutual
/-- of how many one is -/
def szC : Co → Nat
 | .mk _ p f => 1 + szCs p + szCs f
def szCs : List Co → Nat
 | [] => 0
 | d :: r => szC d + szCs r
end
theorem szC_eq (c : Co) : szC c = 1 + szCs c.pairs + szCs c.funs := by cases c; simp [szC, Co.pairs, Co.funs]
theorem szC_pos (c : Co) : 0 < szC c := by rw [szC_eq]; omega
theorem szCs_get : ∀ (l : List Co) (j : Nat), j < l.length → szC (l.getD j co0) ≤ szCs l
 | [], j, h => by simp at h
 | d :: r, 0, _ => by simp only [szCs, List.getD_cons_zero]; omega
 | d :: r, j + 1, h => by
  have := szCs_get r j (by simpa using h)
  simp only [szCs, List.getD_cons_succ]; omega
theorem szCs_mem {l : List Co} {d : Co} (h : d ∈ l) : szC d ≤ szCs l := by
 obtain ⟨j, hj, rfl⟩ := List.getElem_of_mem h
 have := szCs_get l j hj
 simpa [List.getD_eq_getElem?_getD, hj] using this
theorem szC_pairs {c d : Co} (h : d ∈ c.pairs) : szC d < szC c := by have := szCs_mem h; rw [szC_eq c]; omega
theorem szC_funs {c d : Co} (h : d ∈ c.funs) : szC d < szC c := by have := szCs_mem h; rw [szC_eq c]; omega
theorem getC_mem {l : List Co} {j : Nat} (h : j < l.length) : l.getD j co0 ∈ l := by
 rw [List.getD_eq_getElem?_getD, List.getElem?_eq_getElem h]; exact List.getElem_mem h
theorem mem_getC {l : List Co} {d : Co} (h : d ∈ l) : ∃ j, j < l.length ∧ l.getD j co0 = d := by
 obtain ⟨j, hj, rfl⟩ := List.getElem_of_mem h
 exact ⟨j, hj, by simp [List.getD_eq_getElem?_getD, hj]⟩
theorem szC_pair (c : Co) (j : Nat) (h : j < c.pairs.length) : szC (c.pairs.getD j co0) < szC c := szC_pairs (getC_mem h)
theorem szC_fun (c : Co) (j : Nat) (h : j < c.funs.length) : szC (c.funs.getD j co0) < szC c := szC_funs (getC_mem h)
/-- by induction on the size -/
theorem co_ind {P : Co → Prop} (h : ∀ c, (∀ x ∈ c.pairs, P x) → (∀ x ∈ c.funs, P x) → P c) (c : Co) : P c := by
 have key : ∀ n c, szC c ≤ n → P c := by
  intro n
  induction n with
  | zero => intro c hc; have := szC_pos c; omega
  | succ n ih => intro c hc; exact h c (fun x hx => ih x (by have := szC_pairs hx; omega)) fun x hx => ih x (by have := szC_funs hx; omega)
 exact key _ c (Nat.le_refl _)
mutual
/-- how high one is -/
def htC : Co → Nat
 | .mk _ p f => max (htCs p) (htCs f) + 1
def htCs : List Co → Nat
 | [] => 0
 | d :: r => max (htC d) (htCs r)
end
theorem htC_eq (c : Co) : htC c = max (htCs c.pairs) (htCs c.funs) + 1 := by cases c; simp [htC, Co.pairs, Co.funs]
theorem htC_pos (c : Co) : 0 < htC c := by rw [htC_eq]; omega
theorem htCs_mem {l : List Co} {d : Co} (h : d ∈ l) : htC d ≤ htCs l := by
 induction l with
 | nil => cases h
 | cons x r ih =>
  rw [htCs]
  rcases List.mem_cons.1 h with rfl | h
  ·
   exact Nat.le_max_left _ _
  ·
   exact Nat.le_trans (ih h) (Nat.le_max_right _ _)
theorem htC_pairs {c d : Co} (h : d ∈ c.pairs) : htC d < htC c := by have := htCs_mem h; rw [htC_eq c]; omega
theorem htC_funs {c d : Co} (h : d ∈ c.funs) : htC d < htC c := by have := htCs_mem h; rw [htC_eq c]; omega
theorem htCs_le {l : List Co} {n : Nat} (h : ∀ x ∈ l, htC x ≤ n) : htCs l ≤ n := by
 induction l with
 | nil => exact Nat.zero_le _
 | cons x r ih =>
  rw [htCs]
  have h1 := h x (List.mem_cons_self ..)
  have h2 := ih fun y hy => h y (List.mem_cons_of_mem _ hy)
  omega
theorem htC_size (c : Co) : htC c ≤ szC c := by
 induction c using co_ind with
 | h c h1 h2 =>
  rw [htC_eq, szC_eq]
  have k1 : htCs c.pairs ≤ szCs c.pairs := htCs_le fun x hx => Nat.le_trans (h1 x hx) (szCs_mem hx)
  have k2 : htCs c.funs ≤ szCs c.funs := htCs_le fun x hx => Nat.le_trans (h2 x hx) (szCs_mem hx)
  omega

mutual
/-- are two the same? -/
def sameC : Co → Co → Bool
 | .mk h p f, .mk h' p' f' => decide (h = h') && samesC p p' && samesC f f'
def samesC : List Co → List Co → Bool
 | [], [] => true
 | a :: r, b :: s => sameC a b && samesC r s
 | _, _ => false
end
theorem sameC_eq (a b : Co) : sameC a b = (decide (a.h = b.h) && samesC a.pairs b.pairs && samesC a.funs b.funs) := by
 cases a; cases b; rw [sameC]; rfl
theorem samesC_iff : ∀ (l m : List Co), samesC l m = true ↔ l.length = m.length ∧ ∀ j, j < l.length → sameC (l.getD j co0) (m.getD j co0) = true
 | [], [] => by simp [samesC]
 | a :: r, b :: s => by
  simp only [samesC, Bool.and_eq_true, samesC_iff r s, List.length_cons]
  constructor
  ·
   rintro ⟨h1, h2, h3⟩
   refine ⟨by omega, fun j hj => ?_⟩
   cases j with
   | zero => simpa using h1
   | succ j => simpa using h3 j (by omega)
  ·
   rintro ⟨h1, h2⟩
   refine ⟨by simpa using h2 0 (by omega), by omega, fun j hj => by simpa using h2 (j + 1) (by omega)⟩
 | [], b :: s => by simp [samesC]
 | a :: r, [] => by simp [samesC]
theorem samesC_of {l m : List Co} (h : ∀ x ∈ l, ∀ y, sameC x y = true ↔ x = y) : samesC l m = true ↔ l = m := by
 induction l generalizing m with
 | nil => cases m <;> simp [samesC]
 | cons a r ih =>
  cases m with
  | nil => simp [samesC]
  | cons b s => simp only [samesC, Bool.and_eq_true, h a (List.mem_cons_self ..) b, ih fun x hx => h x (List.mem_cons_of_mem _ hx), List.cons.injEq]
/-- they are the same just if they are equal -/
theorem sameC_iff (a b : Co) : sameC a b = true ↔ a = b := by
 induction a using co_ind generalizing b with
 | h t h1 h2 =>
  rw [sameC_eq]
  simp only [Bool.and_eq_true, decide_eq_true_eq, samesC_of h1, samesC_of h2]
  constructor
  ·
   rintro ⟨⟨a1, a2⟩, a3⟩
   exact Co.ext' a1 a2 a3
  ·
   rintro rfl
   exact ⟨⟨rfl, rfl⟩, rfl⟩
theorem samesC_eq (l m : List Co) : samesC l m = true ↔ l = m := samesC_of fun x _ y => sameC_iff x y
theorem sameC_self (c : Co) : sameC c c = true := (sameC_iff c c).2 rfl

/-- does all pass? -/
def passC (c : Co) : Bool := decide (c.h = hd0 ∧ c.pairs.length = 0 ∧ c.funs.length = 0)
theorem passC_iff (c : Co) : passC c = true ↔ c = co0 := by
 unfold passC
 rw [decide_eq_true_eq]
 constructor
 ·
  rintro ⟨h1, h2, h3⟩
  exact Co.ext' h1 (List.length_eq_zero_iff.1 h2) (List.length_eq_zero_iff.1 h3)
 ·
  rintro rfl
  exact ⟨rfl, rfl, rfl⟩
def allC (l : List Co) : Bool := l.all passC
def rng (x : Int) : Prop := 0 ≤ x ∧ x ≤ 99
instance (x : Int) : Decidable (rng x) := by unfold rng; infer_instance
/-- the number of elements that pairs want -/
def wantC (p : Int) : Int := if p = 2 then 2 else if p = 3 then 1 else 0
/-- one's own fields may be -/
def headC (c : Co) : Bool := decide (rng c.h.f0 ∧ rng c.h.f1 ∧ rng c.h.f2 ∧ rng c.h.f3 ∧ rng c.h.f4 ∧ rng c.h.f5 ∧ (0 ≤ c.h.pair ∧ c.h.pair ≤ 3) ∧ (0 ≤ c.h.fn ∧ c.h.fn ≤ 3) ∧ rng c.h.pl ∧ rng c.h.fl ∧
 (c.pairs.length : Int) = wantC c.h.pair ∧ (c.h.pair = 1 → c.h.pl ≠ 0) ∧ (c.h.pair = 0 ∨ c.h.pair = 2 → c.h.pl = 0) ∧ ¬ (2 ≤ c.h.pair ∧ allC c.pairs = true ∧ c.h.pl = 0) ∧
 (c.h.fn ≠ 2 → c.funs.length = 0) ∧ (c.h.fn = 2 → 1 ≤ c.funs.length ∧ c.funs.length ≤ 9 ∧ ¬ allC c.funs = true) ∧ (c.h.fn = 1 ↔ c.h.fl ≠ 0))
def deepC : Nat → Co → Bool
 | 0, _ => false
 | n + 1, c => headC c && c.pairs.all (deepC n) && c.funs.all (deepC n)
theorem deepC_succ (n : Nat) (c : Co) : deepC (n + 1) c = (headC c && c.pairs.all (deepC n) && c.funs.all (deepC n)) := rfl
def rightC (c : Co) : Bool := deepC 25 c
/-- one that may be, however high -/
def okC (c : Co) : Prop := ∃ n, deepC n c = true
theorem deepC_mono {n : Nat} : ∀ {c : Co}, deepC n c = true → ∀ m, n ≤ m → deepC m c = true := by
 induction n with
 | zero => intro c h; cases h
 | succ n ih =>
  intro c h m hm
  obtain ⟨m, rfl⟩ : ∃ k, m = k + 1 := ⟨m - 1, by omega⟩
  rw [deepC_succ, Bool.and_eq_true, Bool.and_eq_true, List.all_eq_true, List.all_eq_true] at h ⊢
  exact ⟨⟨h.1.1, fun x hx => ih (h.1.2 x hx) m (by omega)⟩, fun x hx => ih (h.2 x hx) m (by omega)⟩
theorem deepC_ht {n : Nat} : ∀ {c : Co}, deepC n c = true → htC c ≤ n := by
 induction n with
 | zero => intro c h; cases h
 | succ n ih =>
  intro c h
  rw [deepC_succ, Bool.and_eq_true, Bool.and_eq_true, List.all_eq_true, List.all_eq_true] at h
  rw [htC_eq]
  have k1 : htCs c.pairs ≤ n := htCs_le fun x hx => ih (h.1.2 x hx)
  have k2 : htCs c.funs ≤ n := htCs_le fun x hx => ih (h.2 x hx)
  omega
theorem okC.head {c : Co} (h : okC c) : headC c = true := by
 obtain ⟨n, h⟩ := h
 cases n with
 | zero => cases h
 | succ n => rw [deepC_succ, Bool.and_eq_true, Bool.and_eq_true] at h; exact h.1.1
theorem okC.pair {c d : Co} (h : okC c) (hd : d ∈ c.pairs) : okC d := by
 obtain ⟨n, h⟩ := h
 cases n with
 | zero => cases h
 | succ n => rw [deepC_succ, Bool.and_eq_true, Bool.and_eq_true, List.all_eq_true] at h; exact ⟨n, h.1.2 d hd⟩
theorem okC.fun {c d : Co} (h : okC c) (hd : d ∈ c.funs) : okC d := by
 obtain ⟨n, h⟩ := h
 cases n with
 | zero => cases h
 | succ n => rw [deepC_succ, Bool.and_eq_true, Bool.and_eq_true, List.all_eq_true, List.all_eq_true] at h; exact ⟨n, h.2 d hd⟩
/-- one that may be, but for its height, may be as high as it is -/
theorem okC.deep {c : Co} (h : okC c) : deepC (htC c) c = true := by
 induction c using co_ind with
 | h c h1 h2 =>
  have hh := h.head
  rw [htC_eq, deepC_succ, hh, Bool.true_and, Bool.and_eq_true, List.all_eq_true, List.all_eq_true]
  refine ⟨fun x hx => deepC_mono (h1 x hx (h.pair hx)) _ ?_, fun x hx => deepC_mono (h2 x hx (h.fun hx)) _ ?_⟩
  ·
   have := htCs_mem hx; omega
  ·
   have := htCs_mem hx; omega
theorem okC.mk {c : Co} (h : headC c = true) (hp : ∀ x ∈ c.pairs, okC x) (hf : ∀ x ∈ c.funs, okC x) : okC c := by
 refine ⟨htC c, ?_⟩
 rw [htC_eq, deepC_succ, h, Bool.true_and, Bool.and_eq_true, List.all_eq_true, List.all_eq_true]
 refine ⟨fun x hx => deepC_mono (hp x hx).deep _ ?_, fun x hx => deepC_mono (hf x hx).deep _ ?_⟩
 ·
  have := htCs_mem hx; omega
 ·
  have := htCs_mem hx; omega
theorem rightC_iff (c : Co) : rightC c = true ↔ okC c ∧ htC c ≤ 25 := by
 constructor
 ·
  exact fun h => ⟨⟨25, h⟩, deepC_ht h⟩
 ·
  exact fun h => deepC_mono h.1.deep _ h.2

/-- of how many elements at most each slice is -/
def thinC : Nat → Co → Bool
 | 0, _ => false
 | n + 1, c => decide (c.pairs.length ≤ 12 ∧ c.funs.length ≤ 12) && c.pairs.all (thinC n) && c.funs.all (thinC n)
theorem thinC_succ (n : Nat) (c : Co) : thinC (n + 1) c = (decide (c.pairs.length ≤ 12 ∧ c.funs.length ≤ 12) && c.pairs.all (thinC n) && c.funs.all (thinC n)) := rfl
def Thin (c : Co) : Prop := ∃ n, thinC n c = true
theorem Thin.len {c : Co} (h : Thin c) : c.pairs.length ≤ 12 ∧ c.funs.length ≤ 12 := by
 obtain ⟨n, h⟩ := h
 cases n with
 | zero => cases h
 | succ n => rw [thinC_succ, Bool.and_eq_true, Bool.and_eq_true, decide_eq_true_eq] at h; exact h.1.1
theorem Thin.pair {c d : Co} (h : Thin c) (hd : d ∈ c.pairs) : Thin d := by
 obtain ⟨n, h⟩ := h
 cases n with
 | zero => cases h
 | succ n => rw [thinC_succ, Bool.and_eq_true, Bool.and_eq_true, List.all_eq_true] at h; exact ⟨n, h.1.2 d hd⟩
theorem Thin.fun {c d : Co} (h : Thin c) (hd : d ∈ c.funs) : Thin d := by
 obtain ⟨n, h⟩ := h
 cases n with
 | zero => cases h
 | succ n => rw [thinC_succ, Bool.and_eq_true, Bool.and_eq_true, List.all_eq_true, List.all_eq_true] at h; exact ⟨n, h.2 d hd⟩
theorem thinC_mono {n : Nat} : ∀ {c : Co}, thinC n c = true → ∀ m, n ≤ m → thinC m c = true := by
 induction n with
 | zero => intro c h; cases h
 | succ n ih =>
  intro c h m hm
  obtain ⟨m, rfl⟩ : ∃ k, m = k + 1 := ⟨m - 1, by omega⟩
  rw [thinC_succ, Bool.and_eq_true, Bool.and_eq_true, List.all_eq_true, List.all_eq_true] at h ⊢
  exact ⟨⟨h.1.1, fun x hx => ih (h.1.2 x hx) m (by omega)⟩, fun x hx => ih (h.2 x hx) m (by omega)⟩
theorem Thin.deep {c : Co} (h : Thin c) : thinC (htC c) c = true := by
 induction c using co_ind with
 | h c h1 h2 =>
  rw [htC_eq, thinC_succ, decide_eq_true h.len, Bool.true_and, Bool.and_eq_true, List.all_eq_true, List.all_eq_true]
  refine ⟨fun x hx => thinC_mono (h1 x hx (h.pair hx)) _ ?_, fun x hx => thinC_mono (h2 x hx (h.fun hx)) _ ?_⟩
  ·
   have := htCs_mem hx; omega
  ·
   have := htCs_mem hx; omega
theorem Thin.mk {c : Co} (h : c.pairs.length ≤ 12 ∧ c.funs.length ≤ 12) (hp : ∀ x ∈ c.pairs, Thin x) (hf : ∀ x ∈ c.funs, Thin x) : Thin c := by
 refine ⟨htC c, ?_⟩
 rw [htC_eq, thinC_succ, decide_eq_true h, Bool.true_and, Bool.and_eq_true, List.all_eq_true, List.all_eq_true]
 refine ⟨fun x hx => thinC_mono (hp x hx).deep _ ?_, fun x hx => thinC_mono (hf x hx).deep _ ?_⟩
 ·
  have := htCs_mem hx; omega
 ·
  have := htCs_mem hx; omega
/-- whether parts can be taken: hereditary -/
def shapeC : Nat → Co → Bool
 | 0, _ => false
 | n + 1, c => decide ((0 ≤ c.h.pair ∧ c.h.pair ≤ 3) ∧ (0 ≤ c.h.fn ∧ c.h.fn ≤ 3) ∧ (c.pairs.length : Int) = wantC c.h.pair ∧ (c.h.fn ≠ 2 → c.funs.length = 0) ∧ (c.h.fn = 2 → 1 ≤ c.funs.length ∧ c.funs.length ≤ 9)) && c.pairs.all (shapeC n) && c.funs.all (shapeC n)
theorem headC_own {c : Co} (h : headC c = true) : (0 ≤ c.h.pair ∧ c.h.pair ≤ 3) ∧ (0 ≤ c.h.fn ∧ c.h.fn ≤ 3) ∧ (c.pairs.length : Int) = wantC c.h.pair ∧ (c.h.fn ≠ 2 → c.funs.length = 0) ∧ (c.h.fn = 2 → 1 ≤ c.funs.length ∧ c.funs.length ≤ 9) := by
 unfold headC at h
 rw [decide_eq_true_eq] at h
 obtain ⟨_, _, _, _, _, _, h7, h8, _, _, h11, _, _, _, h15, h16, _⟩ := h
 exact ⟨h7, h8, h11, h15, fun e => ⟨(h16 e).1, (h16 e).2.1⟩⟩
theorem okC.thin {c : Co} (h : okC c) : Thin c := by
 induction c using co_ind with
 | h c h1 h2 =>
  obtain ⟨h3, h4, h5, h6, h7⟩ := headC_own h.head
  refine Thin.mk ⟨?_, ?_⟩ (fun x hx => h1 x hx (h.pair hx)) fun x hx => h2 x hx (h.fun hx)
  ·
   unfold wantC at h5; split at h5
   ·
    omega
   ·
    split at h5 <;> omega
  ·
   by_cases e : c.h.fn = 2
   ·
    have := h7 e; omega
   ·
    have := h6 e; omega

/-- the document's measure: no more than 1000, no deeper than n -/
def sizeK : Nat → Co → Nat
 | 0, _ => 1000
 | n + 1, c => min ((c.funs).foldl (fun m x => if m < 1000 then m + sizeK n x else m) ((c.pairs).foldl (fun m x => if m < 1000 then m + sizeK n x else m) 1)) 1000
def sumK (n a : Nat) (l : List Co) : Nat := l.foldl (fun m x => if m < 1000 then m + sizeK n x else m) a
theorem sizeK_succ (n : Nat) (c : Co) : sizeK (n + 1) c = min (sumK n (sumK n 1 c.pairs) c.funs) 1000 := rfl
theorem sumK_cons (n a : Nat) (d : Co) (r : List Co) : sumK n a (d :: r) = sumK n (if a < 1000 then a + sizeK n d else a) r := rfl
theorem sizeK_le (n : Nat) (c : Co) : sizeK n c ≤ 1000 := by
 cases n with
 | zero => exact Nat.le_refl _
 | succ n => rw [sizeK_succ]; omega
theorem sumK_snoc (n a : Nat) (l : List Co) (k : Nat) (h : k < l.length) : sumK n a (l.take (k + 1)) = if sumK n a (l.take k) < 1000 then sumK n a (l.take k) + sizeK n (l.getD k co0) else sumK n a (l.take k) := by
 unfold sumK
 rw [List.take_succ_eq_append_getElem h, List.foldl_append]
 simp [List.getD_eq_getElem?_getD, h]
theorem sumK_stop (n : Nat) : ∀ (l : List Co) (a : Nat), 1000 ≤ a → sumK n a l = a
 | [], a, _ => rfl
 | d :: r, a, h => by rw [sumK_cons, if_neg (by omega)]; exact sumK_stop n r a h
theorem sumK_take (n a k : Nat) (l : List Co) (h : 1000 ≤ sumK n a (l.take k)) : sumK n a l = sumK n a (l.take k) := by
 have e : sumK n a l = sumK n (sumK n a (l.take k)) (l.drop k) := by
  unfold sumK
  rw [← List.foldl_append, List.take_append_drop]
 rw [e, sumK_stop n _ _ h]
theorem sumK_le (n : Nat) : ∀ (l : List Co) (a : Nat), a < 2000 → sumK n a l < 2000
 | [], a, h => h
 | d :: r, a, h => by
  rw [sumK_cons]
  refine sumK_le n r _ ?_
  have := sizeK_le n d
  split <;> omega
def lightC (c : Co) : Bool := decide (sizeK 60 c < 150)

/-- of lists of an item, and a label -/
def listsC (item : Co) (l : Int) : Co := if passC item = true ∧ l = 0 then co0 else .mk ⟨l, l, l, l, 0, l, 3, l, if l ≠ 0 then 1 else 0, l⟩ [item] []
def carC (c : Co) : Co := if c.h.pair < 2 then co0 else c.pairs.getD 0 co0
def cdrC (c : Co) : Co := if c.h.pair < 2 then co0 else if c.h.pair = 2 then c.pairs.getD 1 co0 else listsC (c.pairs.getD 0 co0) c.h.pl
/-- who is blamed at once -/
def firstC (c : Co) (tag : Int) : Int := if tag = 1 then c.h.f0 else if tag = 2 then c.h.f1 else if tag = 4 then c.h.f2 else if tag = 8 then c.h.f3 else if tag = 16 then c.h.f4 else if tag = 32 then c.h.f5 else
 if tag = 64 ∧ c.h.pair = 1 then c.h.pl else if tag = 128 ∧ c.h.fn = 1 then c.h.fl else 0
def wrapsC (c : Co) (tag : Int) : Bool := decide (tag = 64 ∧ 2 ≤ c.h.pair) || decide (tag = 128 ∧ 2 ≤ c.h.fn)
def eithC (a b : Int) : Int := if a ≠ 0 then a else b
/-- one, and then another one: of so many steps -/
def compF : Nat → Co → Co → Co
 | 0, _, _ => co0
 | n + 1, c, d =>
  let x := if c.h.pair ≠ 1 ∧ d.h.pair ≠ 0 then d else c
  let y := if c.h.fn ≠ 1 ∧ d.h.fn ≠ 0 then d else c
  let wp := decide (2 ≤ c.h.pair ∧ 2 ≤ d.h.pair)
  let ls := decide (c.h.pair = 3 ∧ d.h.pair = 3)
  let wf := decide (2 ≤ c.h.fn ∧ 2 ≤ d.h.fn)
  let bf := decide (c.h.fn = 2 ∧ d.h.fn = 2 ∧ c.funs.length = d.funs.length)
  .mk ⟨eithC c.h.f0 d.h.f0, eithC c.h.f1 d.h.f1, eithC c.h.f2 d.h.f2, eithC c.h.f3 d.h.f3, eithC c.h.f4 d.h.f4, eithC c.h.f5 d.h.f5,
    if wp then (if ls then 3 else 2) else x.h.pair, if wp then (if ls then eithC c.h.pl d.h.pl else 0) else x.h.pl,
    if wf then (if bf then 2 else 3) else y.h.fn, y.h.fl⟩
   (if wp then (if ls then [compF n (carC c) (carC d)] else [compF n (carC c) (carC d), compF n (cdrC c) (cdrC d)]) else x.pairs)
   (if wf then (if bf then ((List.range (c.funs.length - 1)).map fun i => compF n (d.funs.getD i co0) (c.funs.getD i co0)) ++ [compF n (c.funs.getD (c.funs.length - 1) co0) (d.funs.getD (c.funs.length - 1) co0)] else []) else y.funs)
mutual
/-- does one blame just a party? -/
def blmC (l : Int) : Co → Bool
 | .mk h p f => h.flat.all (fun x => decide (x = 0 ∨ x = l)) && decide (h.pl = 0 ∨ h.pl = l) && decide (h.fl = 0 ∨ h.fl = l) && blmCs l p && blmCs l f
def blmCs (l : Int) : List Co → Bool
 | [] => true
 | d :: r => blmC l d && blmCs l r
end
theorem blmC_eq (l : Int) (c : Co) : blmC l c = (c.h.flat.all (fun x => decide (x = 0 ∨ x = l)) && decide (c.h.pl = 0 ∨ c.h.pl = l) && decide (c.h.fl = 0 ∨ c.h.fl = l) && blmCs l c.pairs && blmCs l c.funs) := by
 cases c; rw [blmC]; rfl
theorem blmCs_iff (l : Int) : ∀ (m : List Co), blmCs l m = true ↔ ∀ x ∈ m, blmC l x = true
 | [] => by simp [blmCs]
 | d :: r => by rw [blmCs, Bool.and_eq_true, blmCs_iff l r]; simp
/-- what is said to be of a type, and what goes out as one: of so many steps -/
def bitF (f : Int) (bit l : Int) : Int := if (f.tdiv bit).tmod 2 = 0 then l else 0
def goC : Nat → Bool → Ty → Int → Co
 | 0, _, _, _ => co0
 | n + 1, true, t, l => if t.all then co0 else
  let p := t.pairs.map fun x => goC n true x l
  let f := ((List.range (t.funs.length - 1)).map fun i => goC n false (t.funs.getD i ty0) l) ++ [goC n true (t.funs.getD (t.funs.length - 1) ty0) l]
  .mk ⟨bitF t.flat 1 l, bitF t.flat 2 l, bitF t.flat 4 l, bitF t.flat 8 l, bitF t.flat 16 l, bitF t.flat 32 l,
    if t.pair = 0 then 1 else if t.pair = 1 then (if allC p then 0 else 2) else 3, if t.pair = 0 ∨ t.pair = 2 then l else 0,
    if t.fn = 0 then 1 else if t.fn = 1 then (if allC f then 0 else 2) else 0, if t.fn = 0 then l else 0⟩
   (if t.pair = 0 ∨ t.pair = 1 ∧ allC p = true then [] else p) (if t.fn = 1 then (if allC f then [] else f) else [])
 | n + 1, false, t, l =>
  let p := t.pairs.map fun x => goC n false x l
  let f := ((List.range (t.funs.length - 1)).map fun i => goC n true (t.funs.getD i ty0) l) ++ [goC n false (t.funs.getD (t.funs.length - 1) ty0) l]
  .mk ⟨0, 0, 0, 0, 0, 0, if t.pair = 0 then 0 else if allC p then 0 else if t.pair = 1 then 2 else 3, 0, if t.fn = 1 then (if allC f then 0 else 2) else 0, 0⟩
   (if t.pair = 0 ∨ allC p = true then [] else p) (if t.fn = 1 then (if allC f then [] else f) else [])
end Go.Proofs.YtlalnkabfigodaaDoor
