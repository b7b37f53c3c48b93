import Derived.Test.YtgjkobkcmgliaaaProg
import Derived.Lib.Hide
import Derived.Below
import Derived.ProofKit
import Derived.Laws.Bits128
namespace Go.Proofs.Ytgjkobkcmgliaaa
open Go.RowKit

/-- a number's bits up to 128 -/
def lowN (n : Int) : Nat := (n % 256).toNat
theorem lowN_lt (n : Int) : lowN n < 256 := by unfold lowN; omega
theorem lowN_nat {n : Nat} (h : n < 256) : lowN (n : Int) = n := by unfold lowN; omega
theorem lowN_rng {n : Int} (h0 : 0 ≤ n) (h1 : n ≤ 255) : (lowN n : Int) = n := by unfold lowN; omega
theorem lowN_low (n : Int) : lowN (lowN n : Int) = lowN n := lowN_nat (lowN_lt n)
theorem nand_lt (a : Nat) {b : Nat} (h : b < 256) : a &&& b < 256 := Nat.lt_of_le_of_lt Nat.and_le_right h
theorem nor_lt {a b : Nat} (ha : a < 256) (hb : b < 256) : a ||| b < 256 := Nat.or_lt_two_pow (n := 8) ha hb
theorem nand255 {b : Nat} (h : b < 256) : 255 &&& b = b := by
  rw [Nat.and_comm]
  have := Nat.and_two_pow_sub_one_eq_mod b 8
  simp only [show 2 ^ 8 - 1 = 255 from rfl, show 2 ^ 8 = 256 from rfl] at this
  omega
theorem nor255 {b : Nat} (h : b < 256) : 255 ||| b = 255 := by
  refine Nat.eq_of_testBit_eq fun i => ?_
  rw [Nat.testBit_or]
  by_cases hi : i < 8
  · have : Nat.testBit 255 i = true := by
      have := Nat.testBit_two_pow_sub_one 8 i
      simpa [hi] using this
    simp [this]
  · have h2 : Nat.testBit b i = false := Nat.testBit_lt_two_pow (Nat.lt_of_lt_of_le (show b < 2 ^ 8 from h) (Nat.pow_le_pow_right (show 0 < 2 by omega) (show 8 ≤ i by omega)))
    simp [h2]

/-- the tags that all facts of a variable have in common; 255: there are none -/
def lk (l : List (Int × Int)) (v : Int) : Nat := l.foldl (fun n f => if f.1 = v then n &&& lowN f.2 else n) 255
theorem lk_from (l : List (Int × Int)) (v : Int) : ∀ a, a < 256 → l.foldl (fun n f => if f.1 = v then n &&& lowN f.2 else n) a = a &&& lk l v := by
  unfold lk
  induction l with
  | nil => intro a ha; simp only [List.foldl_nil]; rw [Nat.and_comm, nand255 ha]
  | cons f r ih =>
    intro a ha
    simp only [List.foldl_cons]
    by_cases h : f.1 = v
    · simp only [h, if_true]
      rw [ih _ (nand_lt _ (lowN_lt _)), ih _ (nand_lt _ (lowN_lt _)), nand255 (lowN_lt _), Nat.and_assoc]
    · simp only [h, if_false]
      rw [ih _ ha]
theorem lk_nil (v : Int) : lk [] v = 255 := rfl
theorem lk_cons (f : Int × Int) (r : List (Int × Int)) (v : Int) : lk (f :: r) v = if f.1 = v then lowN f.2 &&& lk r v else lk r v := by
  unfold lk
  rw [List.foldl_cons]
  by_cases h : f.1 = v
  · simp only [h, if_true]; rw [lk_from _ _ _ (nand_lt _ (lowN_lt _)), nand255 (lowN_lt _)]; rfl
  · simp only [h, if_false]
theorem lk_lt (l : List (Int × Int)) (v : Int) : lk l v < 256 := by
  induction l with
  | nil => rw [lk_nil]; omega
  | cons f r ih => rw [lk_cons]; split <;> first | exact nand_lt _ ih | exact ih
theorem lk_app (l m : List (Int × Int)) (v : Int) : lk (l ++ m) v = lk l v &&& lk m v := by
  induction l with
  | nil => rw [List.nil_append, lk_nil, nand255 (lk_lt _ _)]
  | cons f r ih => rw [List.cons_append, lk_cons, lk_cons, ih]; split <;> simp only [Nat.and_assoc]
theorem lk_perm {l m : List (Int × Int)} (h : l.Perm m) (v : Int) : lk l v = lk m v := by
  induction h with
  | nil => rfl
  | cons x _ ih => rw [lk_cons, lk_cons, ih]
  | swap x y l =>
    simp only [lk_cons]
    by_cases h1 : x.1 = v <;> by_cases h2 : y.1 = v <;> simp only [h1, h2, if_true, if_false]
    rw [← Nat.and_assoc, ← Nat.and_assoc, Nat.and_comm (lowN y.2)]
  | trans _ _ h1 h2 => rw [h1, h2]
theorem lk_none {l : List (Int × Int)} {v : Int} (h : ∀ f ∈ l, f.1 ≠ v) : lk l v = 255 := by
  induction l with
  | nil => rfl
  | cons f r ih => rw [lk_cons, if_neg (h f (List.mem_cons_self ..)), ih fun g hg => h g (List.mem_cons_of_mem _ hg)]
theorem lk_snoc (l : List (Int × Int)) (f : Int × Int) (v : Int) : lk (l ++ [f]) v = if f.1 = v then lk l v &&& lowN f.2 else lk l v := by
  rw [lk_app, lk_cons, lk_nil]
  split
  · rw [Nat.and_comm (lowN f.2), nand255 (lowN_lt _)]
  · rw [Nat.and_comm, nand255 (lk_lt _ _)]

/-- in normal form -/
def Rising (l : List (Int × Int)) : Prop := l.Pairwise (fun a b => a.1 < b.1)
def Norm (l : List (Int × Int)) : Prop := Rising l ∧ ∀ f ∈ l, 0 ≤ f.2 ∧ f.2 ≤ 254
theorem Norm.nil : Norm [] := ⟨List.Pairwise.nil, by simp⟩
theorem Norm.tail {f : Int × Int} {r : List (Int × Int)} (h : Norm (f :: r)) : Norm r := ⟨h.1.of_cons, fun g hg => h.2 g (List.mem_cons_of_mem _ hg)⟩
theorem rising_head {f : Int × Int} {r : List (Int × Int)} (h : Rising (f :: r)) : ∀ g ∈ r, f.1 < g.1 := (List.pairwise_cons.1 h).1
theorem lk_head {f : Int × Int} {r : List (Int × Int)} (h : Rising (f :: r)) : lk (f :: r) f.1 = lowN f.2 := by
  rw [lk_cons, if_pos rfl, lk_none fun g hg => by have := rising_head h g hg; omega, Nat.and_comm, nand255 (lowN_lt _)]
theorem lk_below {l : List (Int × Int)} {v : Int} (h : ∀ g ∈ l, v < g.1) : lk l v = 255 := lk_none fun g hg => by have := h g hg; omega
/-- two in normal form that state the same are the same -/
theorem norm_ext : ∀ {a b : List (Int × Int)}, Norm a → Norm b → (∀ v, lk a v = lk b v) → a = b
  | [], [], _, _, _ => rfl
  | [], y :: s, _, hb, h => by
    have h1 := h y.1
    rw [lk_nil, lk_head hb.1] at h1
    have h2 := hb.2 y (List.mem_cons_self ..)
    have := lowN_rng h2.1 (by omega)
    omega
  | x :: r, [], ha, _, h => by
    have h1 := h x.1
    rw [lk_nil, lk_head ha.1] at h1
    have h2 := ha.2 x (List.mem_cons_self ..)
    have := lowN_rng h2.1 (by omega)
    omega
  | x :: r, y :: s, ha, hb, h => by
    have hx := ha.2 x (List.mem_cons_self ..)
    have hy := hb.2 y (List.mem_cons_self ..)
    have ex := lowN_rng hx.1 (by omega)
    have ey := lowN_rng hy.1 (by omega)
    have e1 : x.1 = y.1 := by
      rcases Int.lt_trichotomy x.1 y.1 with hlt | he | hlt
      · have h1 := h x.1
        rw [lk_head ha.1, lk_cons, if_neg (by omega), lk_below fun g hg => by have := rising_head hb.1 g hg; omega] at h1
        omega
      · exact he
      · have h1 := h y.1
        rw [lk_head hb.1, lk_cons, if_neg (by omega), lk_below fun g hg => by have := rising_head ha.1 g hg; omega] at h1
        omega
    have e2 : x.2 = y.2 := by
      have h1 := h x.1
      rw [lk_head ha.1, e1, lk_head hb.1] at h1
      omega
    have e : x = y := Prod.ext e1 e2
    subst e
    rw [norm_ext ha.tail hb.tail fun v => ?_]
    by_cases hv : x.1 = v
    · subst hv
      rw [lk_below (rising_head ha.1), lk_below (rising_head hb.1)]
    · have h1 := h v
      rwa [lk_cons, lk_cons, if_neg hv, if_neg hv] at h1

/-- one fact more, into facts that rise -/
def insF (f : Int × Int) : List (Int × Int) → List (Int × Int)
  | [] => [(f.1, (lowN f.2 : Int))]
  | y :: r => if f.1 < y.1 then (f.1, (lowN f.2 : Int)) :: y :: r else if f.1 = y.1 then (y.1, ((lowN f.2 &&& lowN y.2 : Nat) : Int)) :: r else y :: insF f r
theorem lk_insF (f : Int × Int) (v : Int) : ∀ l, lk (insF f l) v = lk (f :: l) v
  | [] => by simp only [insF, lk_cons, lowN_low]
  | y :: r => by
    rw [insF]
    split
    · simp only [lk_cons, lowN_low]
    · split
      · rename_i h
        simp only [lk_cons, lowN_nat (nand_lt _ (lowN_lt _)), h, Nat.and_assoc]
        split <;> rfl
      · rename_i h1 h2
        rw [lk_cons, lk_insF f v r]
        simp only [lk_cons]
        by_cases e1 : y.1 = v <;> by_cases e2 : f.1 = v <;> simp only [e1, e2, if_true, if_false]
        omega
theorem insF_mem (f : Int × Int) : ∀ l, ∀ g ∈ insF f l, g.1 = f.1 ∨ ∃ y ∈ l, g.1 = y.1
  | [], g, hg => by simp only [insF, List.mem_singleton] at hg; subst hg; exact .inl rfl
  | y :: r, g, hg => by
    rw [insF] at hg
    split at hg
    · rcases List.mem_cons.1 hg with rfl | hg
      · exact .inl rfl
      · exact .inr ⟨g, hg, rfl⟩
    · split at hg
      · rcases List.mem_cons.1 hg with rfl | hg
        · exact .inr ⟨y, List.mem_cons_self .., rfl⟩
        · exact .inr ⟨g, List.mem_cons_of_mem _ hg, rfl⟩
      · rcases List.mem_cons.1 hg with rfl | hg
        · exact .inr ⟨g, List.mem_cons_self .., rfl⟩
        · rcases insF_mem f r g hg with h | ⟨z, hz, h⟩
          · exact .inl h
          · exact .inr ⟨z, List.mem_cons_of_mem _ hz, h⟩
theorem insF_rising (f : Int × Int) : ∀ l, Rising l → Rising (insF f l)
  | [], _ => List.pairwise_singleton ..
  | y :: r, h => by
    rw [insF]
    have hy := rising_head h
    split
    · rename_i hlt
      refine List.pairwise_cons.2 ⟨fun g hg => ?_, h⟩
      rcases List.mem_cons.1 hg with rfl | hg
      · exact hlt
      · have := hy g hg; show f.1 < g.1; omega
    · split
      · exact List.pairwise_cons.2 ⟨fun g hg => hy g hg, h.of_cons⟩
      · refine List.pairwise_cons.2 ⟨fun g hg => ?_, insF_rising f r h.of_cons⟩
        rcases insF_mem f r g hg with e | ⟨z, hz, e⟩
        · omega
        · have := hy z hz; omega
theorem insF_rng (f : Int × Int) : ∀ l, (∀ g ∈ l, 0 ≤ g.2 ∧ g.2 ≤ 255) → ∀ g ∈ insF f l, 0 ≤ g.2 ∧ g.2 ≤ 255
  | [], _, g, hg => by simp only [insF, List.mem_singleton] at hg; subst hg; have := lowN_lt f.2; show (0:Int) ≤ (lowN f.2 : Int) ∧ (lowN f.2 : Int) ≤ 255; omega
  | y :: r, h, g, hg => by
    rw [insF] at hg
    split at hg
    · rcases List.mem_cons.1 hg with rfl | hg
      · have := lowN_lt f.2; show (0:Int) ≤ (lowN f.2 : Int) ∧ (lowN f.2 : Int) ≤ 255; omega
      · exact h g hg
    · split at hg
      · rcases List.mem_cons.1 hg with rfl | hg
        · have := nand_lt (lowN f.2) (lowN_lt y.2); show (0:Int) ≤ ((lowN f.2 &&& lowN y.2 : Nat) : Int) ∧ ((lowN f.2 &&& lowN y.2 : Nat) : Int) ≤ 255; omega
        · exact h g (List.mem_cons_of_mem _ hg)
      · rcases List.mem_cons.1 hg with rfl | hg
        · exact h g (List.mem_cons_self ..)
        · exact insF_rng f r (fun z hz => h z (List.mem_cons_of_mem _ hz)) g hg
theorem insF_len (f : Int × Int) : ∀ l, (insF f l).length ≤ l.length + 1
  | [] => Nat.le_refl _
  | y :: r => by
    rw [insF]
    split
    · simp
    · split
      · simp
      · have := insF_len f r; simp only [List.length_cons]; omega
/-- what states nothing is left out -/
def dropF (l : List (Int × Int)) : List (Int × Int) := l.filter fun f => !decide (f.2 = 255)
theorem lk_dropF {l : List (Int × Int)} (v : Int) (h : ∀ f ∈ l, 0 ≤ f.2 ∧ f.2 ≤ 255) : lk (dropF l) v = lk l v := by
  induction l with
  | nil => rfl
  | cons f r ih =>
    have ih := ih fun g hg => h g (List.mem_cons_of_mem _ hg)
    unfold dropF at ih ⊢
    rw [List.filter_cons]
    by_cases hf : f.2 = 255
    · rw [if_neg (by simp [hf]), ih, lk_cons, hf, show lowN 255 = 255 from rfl, nand255 (lk_lt _ _)]
      simp
    · rw [if_pos (by simp [hf]), lk_cons, lk_cons, ih]
theorem dropF_norm {l : List (Int × Int)} (h1 : Rising l) (h : ∀ f ∈ l, 0 ≤ f.2 ∧ f.2 ≤ 255) : Norm (dropF l) := by
  refine ⟨h1.sublist List.filter_sublist, fun f hf => ?_⟩
  have h2 := List.mem_filter.1 hf
  have h3 := h f h2.1
  have h4 : f.2 ≠ 255 := by simpa using h2.2
  omega
theorem dropF_len (l : List (Int × Int)) : (dropF l).length ≤ l.length := List.length_filter_le ..
/-- facts in normal form -/
def nrm (l : List (Int × Int)) : List (Int × Int) := dropF (l.foldr insF [])
theorem foldr_insF (l : List (Int × Int)) : Rising (l.foldr insF []) ∧ (∀ g ∈ l.foldr insF [], 0 ≤ g.2 ∧ g.2 ≤ 255) ∧ (∀ v, lk (l.foldr insF []) v = lk l v) ∧ (l.foldr insF []).length ≤ l.length := by
  induction l with
  | nil => exact ⟨List.Pairwise.nil, by simp, fun _ => rfl, Nat.le_refl _⟩
  | cons f r ih =>
    obtain ⟨h1, h2, h3, h4⟩ := ih
    rw [List.foldr_cons]
    refine ⟨insF_rising f _ h1, insF_rng f _ h2, fun v => ?_, ?_⟩
    · rw [lk_insF, lk_cons, lk_cons, h3]
    · have := insF_len f (r.foldr insF []); simp only [List.length_cons]; omega
theorem nrm_norm (l : List (Int × Int)) : Norm (nrm l) := dropF_norm (foldr_insF l).1 (foldr_insF l).2.1
theorem lk_nrm (l : List (Int × Int)) (v : Int) : lk (nrm l) v = lk l v := by
  unfold nrm; rw [lk_dropF v (foldr_insF l).2.1, (foldr_insF l).2.2.1]
theorem nrm_len (l : List (Int × Int)) : (nrm l).length ≤ l.length := Nat.le_trans (dropF_len _) (foldr_insF l).2.2.2
theorem nrm_of {l m : List (Int × Int)} (h : Norm m) (k : ∀ v, lk m v = lk l v) : m = nrm l := norm_ext h (nrm_norm l) fun v => by rw [k, lk_nrm]
theorem nrm_self {l : List (Int × Int)} (h : Norm l) : nrm l = l := (nrm_of h fun _ => rfl).symm
/-- what is stated by both -/
def orL (a b : List (Int × Int)) : List (Int × Int) := nrm (a.map fun f => (f.1, ((lk a f.1 ||| lk b f.1 : Nat) : Int)))
theorem lk_map (v : Int) (g : Int → Nat) (hg : g v < 256) : ∀ a : List (Int × Int), lk (a.map fun f => (f.1, ((g f.1 : Nat) : Int))) v = if ∃ f ∈ a, f.1 = v then g v else 255
  | [] => by simp [lk_nil]
  | f :: r => by
    rw [List.map_cons, lk_cons, lk_map v g hg r]
    by_cases h : f.1 = v
    · have e : lowN ((g f.1 : Nat) : Int) = g v := by rw [h, lowN_nat hg]
      have e2 : (if ∃ x ∈ f :: r, x.1 = v then g v else 255) = g v := if_pos ⟨f, List.mem_cons_self .., h⟩
      rw [if_pos h, e2, e]
      split
      · exact Nat.and_self _
      · rw [Nat.and_comm, nand255 hg]
    · rw [if_neg h]
      by_cases h2 : ∃ x ∈ r, x.1 = v
      · obtain ⟨x, hx, hv⟩ := h2
        rw [if_pos ⟨x, hx, hv⟩, if_pos ⟨x, List.mem_cons_of_mem _ hx, hv⟩]
      · rw [if_neg h2, if_neg]
        rintro ⟨x, hx, hv⟩
        rcases List.mem_cons.1 hx with rfl | hx
        · exact h hv
        · exact h2 ⟨x, hx, hv⟩
theorem lk_orL (a b : List (Int × Int)) (v : Int) : lk (orL a b) v = lk a v ||| lk b v := by
  unfold orL
  rw [lk_nrm, lk_map v (fun v => lk a v ||| lk b v) (nor_lt (lk_lt _ _) (lk_lt _ _))]
  split
  · rfl
  · rename_i h
    rw [lk_none (l := a) fun f hf e => h ⟨f, hf, e⟩, nor255 (lk_lt _ _)]
theorem orL_norm (a b : List (Int × Int)) : Norm (orL a b) := nrm_norm _
theorem orL_len (a b : List (Int × Int)) : (orL a b).length ≤ a.length := by unfold orL; exact Nat.le_trans (nrm_len _) (by simp)
theorem orL_of {a b m : List (Int × Int)} (h : Norm m) (k : ∀ v, lk m v = lk a v ||| lk b v) : m = orL a b := norm_ext h (orL_norm a b) fun v => by rw [k, lk_orL]

/-- facts -/
structure Fcs where
  never : Bool
  l : List (Int × Int)
structure Prp where
  th : Fcs
  el : Fcs
def fcs0 : Fcs := ⟨false, []⟩
def andF (a b : Fcs) : Fcs := if a.never || b.never then ⟨true, []⟩ else ⟨false, nrm (a.l ++ b.l)⟩
def orF (a b : Fcs) : Fcs := if a.never then andF b fcs0 else if b.never then andF a fcs0 else ⟨false, orL a.l b.l⟩
def stateF (v g : Int) : Fcs := ⟨false, nrm [(v, g)]⟩
def isP (v g : Int) : Prp := ⟨stateF v g, stateF v (-1 - g)⟩
def truthP (v : Int) : Prp := ⟨fcs0, stateF v 2⟩
def constP (b : Bool) : Prp := ⟨⟨!b, []⟩, ⟨b, []⟩⟩
def noneP : Prp := ⟨fcs0, fcs0⟩
def notP (p : Prp) : Prp := ⟨p.el, p.th⟩
def ifP (a b c : Prp) : Prp := ⟨orF (andF a.th b.th) (andF a.el c.th), orF (andF a.th b.el) (andF a.el c.el)⟩
theorem andF_len (a b : Fcs) : (andF a b).l.length ≤ a.l.length + b.l.length := by
  unfold andF
  split
  · simp
  · have := nrm_len (a.l ++ b.l); simpa using this
theorem orF_len (a b : Fcs) : (orF a b).l.length ≤ max a.l.length b.l.length := by
  unfold orF
  split
  · have := andF_len b fcs0; simp only [fcs0, List.length_nil] at this ⊢; omega
  · split
    · have := andF_len a fcs0; simp only [fcs0, List.length_nil] at this ⊢; omega
    · have := orL_len a.l b.l; simp only; omega

/-- the model's '&' and '|' of tags -/
theorem bv_nat {x : Nat} (h : x < 256) : (BitVec.ofInt 64 (x : Int)).toNat = x := by rw [BitVec.toNat_ofInt]; omega
theorem i64_and255 (n : Int) : bits .and .i64 n 255 = (lowN n : Int) := by
  have h : (BitVec.ofInt 64 255).toNat = 2 ^ 8 - 1 := by decide
  have key : (BitVec.ofInt 64 n &&& BitVec.ofInt 64 255).toNat = (n % ((2 ^ 64 : Nat) : Int)).toNat % 2 ^ 8 := by
    rw [BitVec.toNat_and, BitVec.toNat_ofInt, h, Nat.and_two_pow_sub_one_eq_mod]
  show IntKind.i64.wrap ((BitVec.ofInt 64 n &&& BitVec.ofInt 64 255).toNat : Nat) = (lowN n : Int)
  rw [key, IntKind.wrap_i64]
  unfold lowN
  omega
theorem i64_and {x y : Nat} (hx : x < 256) (hy : y < 256) : bits .and .i64 (x : Int) (y : Int) = ((x &&& y : Nat) : Int) := by
  show IntKind.i64.wrap ((BitVec.ofInt 64 (x : Int) &&& BitVec.ofInt 64 (y : Int)).toNat : Nat) = ((x &&& y : Nat) : Int)
  rw [BitVec.toNat_and, bv_nat hx, bv_nat hy, IntKind.wrap_i64]
  have := nand_lt x hy
  omega
theorem i64_or {x y : Nat} (hx : x < 256) (hy : y < 256) : bits .or .i64 (x : Int) (y : Int) = ((x ||| y : Nat) : Int) := by
  show IntKind.i64.wrap ((BitVec.ofInt 64 (x : Int) ||| BitVec.ofInt 64 (y : Int)).toNat : Nat) = ((x ||| y : Nat) : Int)
  rw [BitVec.toNat_or, bv_nat hx, bv_nat hy, IntKind.wrap_i64]
  have := nor_lt hx hy
  omega
end Go.Proofs.Ytgjkobkcmgliaaa
