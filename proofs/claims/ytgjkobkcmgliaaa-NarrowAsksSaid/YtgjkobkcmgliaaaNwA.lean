import Derived.Test.YtgjkobkcmgliaaaProg
import Derived.Lib.Hide
import Derived.Below
import Derived.ProofKit
import Derived.Laws.Bits128
import Derived.Deep.Slices
import Derived.WalkKit
import Derived.WalkSpells
import Derived.WalkLawsBesides
import Derived.BigQuiet
import Derived.Deep.QuietTactic
import Derived.Outline
import Derived.Lib.Builder
import Derived.Deep.RegionHeld3
import Derived.Deep.AppendLies
import Derived.Laws.Pointers
import Derived.OwnWalk
import Derived.StillTactics
import Derived.Lib.SliceRun
-- joined
namespace Go.Proofs.Ytgjkobkcmgliaaa
open Go.RowKit

/-- a number's bits up to 128 -/
def lowN (n : Int) : Nat := (n % 256).toNat
theorem lowN_lt (n : Int) : lowN n < 256 := by unfold lowN; omega
theorem lowN_nat {n : Nat} (h : n < 256) : lowN (n : Int) = n := by unfold lowN; omega
theorem lowN_rng {n : Int} (h0 : 0 ≤ n) (h1 : n ≤ 255) : (lowN n : Int) = n := by unfold lowN; omega
theorem lowN_low (n : Int) : lowN (lowN n : Int) = lowN n := lowN_nat (lowN_lt n)
theorem nand_lt (a : Nat) {b : Nat} (h : b < 256) : a &&& b < 256 := Nat.lt_of_le_of_lt Nat.and_le_right h
theorem nor_lt {a b : Nat} (ha : a < 256) (hb : b < 256) : a ||| b < 256 := Nat.or_lt_two_pow (n := 8) ha hb
theorem nand255 {b : Nat} (h : b < 256) : 255 &&& b = b := by
  rw [Nat.and_comm]
  have := Nat.and_two_pow_sub_one_eq_mod b 8
  simp only [show 2 ^ 8 - 1 = 255 from rfl, show 2 ^ 8 = 256 from rfl] at this
  omega
theorem nor255 {b : Nat} (h : b < 256) : 255 ||| b = 255 := by
  refine Nat.eq_of_testBit_eq fun i => ?_
  rw [Nat.testBit_or]
  by_cases hi : i < 8
  · have : Nat.testBit 255 i = true := by
      have := Nat.testBit_two_pow_sub_one 8 i
      simpa [hi] using this
    simp [this]
  · have h2 : Nat.testBit b i = false := Nat.testBit_lt_two_pow (Nat.lt_of_lt_of_le (show b < 2 ^ 8 from h) (Nat.pow_le_pow_right (show 0 < 2 by omega) (show 8 ≤ i by omega)))
    simp [h2]

/-- the tags that all facts of a variable have in common; 255: there are none -/
def lk (l : List (Int × Int)) (v : Int) : Nat := l.foldl (fun n f => if f.1 = v then n &&& lowN f.2 else n) 255
theorem lk_from (l : List (Int × Int)) (v : Int) : ∀ a, a < 256 → l.foldl (fun n f => if f.1 = v then n &&& lowN f.2 else n) a = a &&& lk l v := by
  unfold lk
  induction l with
  | nil => intro a ha; simp only [List.foldl_nil]; rw [Nat.and_comm, nand255 ha]
  | cons f r ih =>
    intro a ha
    simp only [List.foldl_cons]
    by_cases h : f.1 = v
    · simp only [h, if_true]
      rw [ih _ (nand_lt _ (lowN_lt _)), ih _ (nand_lt _ (lowN_lt _)), nand255 (lowN_lt _), Nat.and_assoc]
    · simp only [h, if_false]
      rw [ih _ ha]
theorem lk_nil (v : Int) : lk [] v = 255 := rfl
theorem lk_cons (f : Int × Int) (r : List (Int × Int)) (v : Int) : lk (f :: r) v = if f.1 = v then lowN f.2 &&& lk r v else lk r v := by
  unfold lk
  rw [List.foldl_cons]
  by_cases h : f.1 = v
  · simp only [h, if_true]; rw [lk_from _ _ _ (nand_lt _ (lowN_lt _)), nand255 (lowN_lt _)]; rfl
  · simp only [h, if_false]
theorem lk_lt (l : List (Int × Int)) (v : Int) : lk l v < 256 := by
  induction l with
  | nil => rw [lk_nil]; omega
  | cons f r ih => rw [lk_cons]; split <;> first | exact nand_lt _ ih | exact ih
theorem lk_app (l m : List (Int × Int)) (v : Int) : lk (l ++ m) v = lk l v &&& lk m v := by
  induction l with
  | nil => rw [List.nil_append, lk_nil, nand255 (lk_lt _ _)]
  | cons f r ih => rw [List.cons_append, lk_cons, lk_cons, ih]; split <;> simp only [Nat.and_assoc]
theorem lk_perm {l m : List (Int × Int)} (h : l.Perm m) (v : Int) : lk l v = lk m v := by
  induction h with
  | nil => rfl
  | cons x _ ih => rw [lk_cons, lk_cons, ih]
  | swap x y l =>
    simp only [lk_cons]
    by_cases h1 : x.1 = v <;> by_cases h2 : y.1 = v <;> simp only [h1, h2, if_true, if_false]
    rw [← Nat.and_assoc, ← Nat.and_assoc, Nat.and_comm (lowN y.2)]
  | trans _ _ h1 h2 => rw [h1, h2]
theorem lk_none {l : List (Int × Int)} {v : Int} (h : ∀ f ∈ l, f.1 ≠ v) : lk l v = 255 := by
  induction l with
  | nil => rfl
  | cons f r ih => rw [lk_cons, if_neg (h f (List.mem_cons_self ..)), ih fun g hg => h g (List.mem_cons_of_mem _ hg)]
theorem lk_snoc (l : List (Int × Int)) (f : Int × Int) (v : Int) : lk (l ++ [f]) v = if f.1 = v then lk l v &&& lowN f.2 else lk l v := by
  rw [lk_app, lk_cons, lk_nil]
  split
  · rw [Nat.and_comm (lowN f.2), nand255 (lowN_lt _)]
  · rw [Nat.and_comm, nand255 (lk_lt _ _)]

/-- in normal form -/
def Rising (l : List (Int × Int)) : Prop := l.Pairwise (fun a b => a.1 < b.1)
def Norm (l : List (Int × Int)) : Prop := Rising l ∧ ∀ f ∈ l, 0 ≤ f.2 ∧ f.2 ≤ 254
theorem Norm.nil : Norm [] := ⟨List.Pairwise.nil, by simp⟩
theorem Norm.tail {f : Int × Int} {r : List (Int × Int)} (h : Norm (f :: r)) : Norm r := ⟨h.1.of_cons, fun g hg => h.2 g (List.mem_cons_of_mem _ hg)⟩
theorem rising_head {f : Int × Int} {r : List (Int × Int)} (h : Rising (f :: r)) : ∀ g ∈ r, f.1 < g.1 := (List.pairwise_cons.1 h).1
theorem lk_head {f : Int × Int} {r : List (Int × Int)} (h : Rising (f :: r)) : lk (f :: r) f.1 = lowN f.2 := by
  rw [lk_cons, if_pos rfl, lk_none fun g hg => by have := rising_head h g hg; omega, Nat.and_comm, nand255 (lowN_lt _)]
theorem lk_below {l : List (Int × Int)} {v : Int} (h : ∀ g ∈ l, v < g.1) : lk l v = 255 := lk_none fun g hg => by have := h g hg; omega
/-- two in normal form that state the same are the same -/
theorem norm_ext : ∀ {a b : List (Int × Int)}, Norm a → Norm b → (∀ v, lk a v = lk b v) → a = b
  | [], [], _, _, _ => rfl
  | [], y :: s, _, hb, h => by
    have h1 := h y.1
    rw [lk_nil, lk_head hb.1] at h1
    have h2 := hb.2 y (List.mem_cons_self ..)
    have := lowN_rng h2.1 (by omega)
    omega
  | x :: r, [], ha, _, h => by
    have h1 := h x.1
    rw [lk_nil, lk_head ha.1] at h1
    have h2 := ha.2 x (List.mem_cons_self ..)
    have := lowN_rng h2.1 (by omega)
    omega
  | x :: r, y :: s, ha, hb, h => by
    have hx := ha.2 x (List.mem_cons_self ..)
    have hy := hb.2 y (List.mem_cons_self ..)
    have ex := lowN_rng hx.1 (by omega)
    have ey := lowN_rng hy.1 (by omega)
    have e1 : x.1 = y.1 := by
      rcases Int.lt_trichotomy x.1 y.1 with hlt | he | hlt
      · have h1 := h x.1
        rw [lk_head ha.1, lk_cons, if_neg (by omega), lk_below fun g hg => by have := rising_head hb.1 g hg; omega] at h1
        omega
      · exact he
      · have h1 := h y.1
        rw [lk_head hb.1, lk_cons, if_neg (by omega), lk_below fun g hg => by have := rising_head ha.1 g hg; omega] at h1
        omega
    have e2 : x.2 = y.2 := by
      have h1 := h x.1
      rw [lk_head ha.1, e1, lk_head hb.1] at h1
      omega
    have e : x = y := Prod.ext e1 e2
    subst e
    rw [norm_ext ha.tail hb.tail fun v => ?_]
    by_cases hv : x.1 = v
    · subst hv
      rw [lk_below (rising_head ha.1), lk_below (rising_head hb.1)]
    · have h1 := h v
      rwa [lk_cons, lk_cons, if_neg hv, if_neg hv] at h1

/-- one fact more, into facts that rise -/
def insF (f : Int × Int) : List (Int × Int) → List (Int × Int)
  | [] => [(f.1, (lowN f.2 : Int))]
  | y :: r => if f.1 < y.1 then (f.1, (lowN f.2 : Int)) :: y :: r else if f.1 = y.1 then (y.1, ((lowN f.2 &&& lowN y.2 : Nat) : Int)) :: r else y :: insF f r
theorem lk_insF (f : Int × Int) (v : Int) : ∀ l, lk (insF f l) v = lk (f :: l) v
  | [] => by simp only [insF, lk_cons, lowN_low]
  | y :: r => by
    rw [insF]
    split
    · simp only [lk_cons, lowN_low]
    · split
      · rename_i h
        simp only [lk_cons, lowN_nat (nand_lt _ (lowN_lt _)), h, Nat.and_assoc]
        split <;> rfl
      · rename_i h1 h2
        rw [lk_cons, lk_insF f v r]
        simp only [lk_cons]
        by_cases e1 : y.1 = v <;> by_cases e2 : f.1 = v <;> simp only [e1, e2, if_true, if_false]
        omega
theorem insF_mem (f : Int × Int) : ∀ l, ∀ g ∈ insF f l, g.1 = f.1 ∨ ∃ y ∈ l, g.1 = y.1
  | [], g, hg => by simp only [insF, List.mem_singleton] at hg; subst hg; exact .inl rfl
  | y :: r, g, hg => by
    rw [insF] at hg
    split at hg
    · rcases List.mem_cons.1 hg with rfl | hg
      · exact .inl rfl
      · exact .inr ⟨g, hg, rfl⟩
    · split at hg
      · rcases List.mem_cons.1 hg with rfl | hg
        · exact .inr ⟨y, List.mem_cons_self .., rfl⟩
        · exact .inr ⟨g, List.mem_cons_of_mem _ hg, rfl⟩
      · rcases List.mem_cons.1 hg with rfl | hg
        · exact .inr ⟨g, List.mem_cons_self .., rfl⟩
        · rcases insF_mem f r g hg with h | ⟨z, hz, h⟩
          · exact .inl h
          · exact .inr ⟨z, List.mem_cons_of_mem _ hz, h⟩
theorem insF_rising (f : Int × Int) : ∀ l, Rising l → Rising (insF f l)
  | [], _ => List.pairwise_singleton ..
  | y :: r, h => by
    rw [insF]
    have hy := rising_head h
    split
    · rename_i hlt
      refine List.pairwise_cons.2 ⟨fun g hg => ?_, h⟩
      rcases List.mem_cons.1 hg with rfl | hg
      · exact hlt
      · have := hy g hg; show f.1 < g.1; omega
    · split
      · exact List.pairwise_cons.2 ⟨fun g hg => hy g hg, h.of_cons⟩
      · refine List.pairwise_cons.2 ⟨fun g hg => ?_, insF_rising f r h.of_cons⟩
        rcases insF_mem f r g hg with e | ⟨z, hz, e⟩
        · omega
        · have := hy z hz; omega
theorem insF_rng (f : Int × Int) : ∀ l, (∀ g ∈ l, 0 ≤ g.2 ∧ g.2 ≤ 255) → ∀ g ∈ insF f l, 0 ≤ g.2 ∧ g.2 ≤ 255
  | [], _, g, hg => by simp only [insF, List.mem_singleton] at hg; subst hg; have := lowN_lt f.2; show (0:Int) ≤ (lowN f.2 : Int) ∧ (lowN f.2 : Int) ≤ 255; omega
  | y :: r, h, g, hg => by
    rw [insF] at hg
    split at hg
    · rcases List.mem_cons.1 hg with rfl | hg
      · have := lowN_lt f.2; show (0:Int) ≤ (lowN f.2 : Int) ∧ (lowN f.2 : Int) ≤ 255; omega
      · exact h g hg
    · split at hg
      · rcases List.mem_cons.1 hg with rfl | hg
        · have := nand_lt (lowN f.2) (lowN_lt y.2); show (0:Int) ≤ ((lowN f.2 &&& lowN y.2 : Nat) : Int) ∧ ((lowN f.2 &&& lowN y.2 : Nat) : Int) ≤ 255; omega
        · exact h g (List.mem_cons_of_mem _ hg)
      · rcases List.mem_cons.1 hg with rfl | hg
        · exact h g (List.mem_cons_self ..)
        · exact insF_rng f r (fun z hz => h z (List.mem_cons_of_mem _ hz)) g hg
theorem insF_len (f : Int × Int) : ∀ l, (insF f l).length ≤ l.length + 1
  | [] => Nat.le_refl _
  | y :: r => by
    rw [insF]
    split
    · simp
    · split
      · simp
      · have := insF_len f r; simp only [List.length_cons]; omega
/-- what states nothing is left out -/
def dropF (l : List (Int × Int)) : List (Int × Int) := l.filter fun f => !decide (f.2 = 255)
theorem lk_dropF {l : List (Int × Int)} (v : Int) (h : ∀ f ∈ l, 0 ≤ f.2 ∧ f.2 ≤ 255) : lk (dropF l) v = lk l v := by
  induction l with
  | nil => rfl
  | cons f r ih =>
    have ih := ih fun g hg => h g (List.mem_cons_of_mem _ hg)
    unfold dropF at ih ⊢
    rw [List.filter_cons]
    by_cases hf : f.2 = 255
    · rw [if_neg (by simp [hf]), ih, lk_cons, hf, show lowN 255 = 255 from rfl, nand255 (lk_lt _ _)]
      simp
    · rw [if_pos (by simp [hf]), lk_cons, lk_cons, ih]
theorem dropF_norm {l : List (Int × Int)} (h1 : Rising l) (h : ∀ f ∈ l, 0 ≤ f.2 ∧ f.2 ≤ 255) : Norm (dropF l) := by
  refine ⟨h1.sublist List.filter_sublist, fun f hf => ?_⟩
  have h2 := List.mem_filter.1 hf
  have h3 := h f h2.1
  have h4 : f.2 ≠ 255 := by simpa using h2.2
  omega
theorem dropF_len (l : List (Int × Int)) : (dropF l).length ≤ l.length := List.length_filter_le ..
/-- facts in normal form -/
def nrm (l : List (Int × Int)) : List (Int × Int) := dropF (l.foldr insF [])
theorem foldr_insF (l : List (Int × Int)) : Rising (l.foldr insF []) ∧ (∀ g ∈ l.foldr insF [], 0 ≤ g.2 ∧ g.2 ≤ 255) ∧ (∀ v, lk (l.foldr insF []) v = lk l v) ∧ (l.foldr insF []).length ≤ l.length := by
  induction l with
  | nil => exact ⟨List.Pairwise.nil, by simp, fun _ => rfl, Nat.le_refl _⟩
  | cons f r ih =>
    obtain ⟨h1, h2, h3, h4⟩ := ih
    rw [List.foldr_cons]
    refine ⟨insF_rising f _ h1, insF_rng f _ h2, fun v => ?_, ?_⟩
    · rw [lk_insF, lk_cons, lk_cons, h3]
    · have := insF_len f (r.foldr insF []); simp only [List.length_cons]; omega
theorem nrm_norm (l : List (Int × Int)) : Norm (nrm l) := dropF_norm (foldr_insF l).1 (foldr_insF l).2.1
theorem lk_nrm (l : List (Int × Int)) (v : Int) : lk (nrm l) v = lk l v := by
  unfold nrm; rw [lk_dropF v (foldr_insF l).2.1, (foldr_insF l).2.2.1]
theorem nrm_len (l : List (Int × Int)) : (nrm l).length ≤ l.length := Nat.le_trans (dropF_len _) (foldr_insF l).2.2.2
theorem nrm_of {l m : List (Int × Int)} (h : Norm m) (k : ∀ v, lk m v = lk l v) : m = nrm l := norm_ext h (nrm_norm l) fun v => by rw [k, lk_nrm]
theorem nrm_self {l : List (Int × Int)} (h : Norm l) : nrm l = l := (nrm_of h fun _ => rfl).symm
/-- what is stated by both -/
def orL (a b : List (Int × Int)) : List (Int × Int) := nrm (a.map fun f => (f.1, ((lk a f.1 ||| lk b f.1 : Nat) : Int)))
theorem lk_map (v : Int) (g : Int → Nat) (hg : g v < 256) : ∀ a : List (Int × Int), lk (a.map fun f => (f.1, ((g f.1 : Nat) : Int))) v = if ∃ f ∈ a, f.1 = v then g v else 255
  | [] => by simp [lk_nil]
  | f :: r => by
    rw [List.map_cons, lk_cons, lk_map v g hg r]
    by_cases h : f.1 = v
    · have e : lowN ((g f.1 : Nat) : Int) = g v := by rw [h, lowN_nat hg]
      have e2 : (if ∃ x ∈ f :: r, x.1 = v then g v else 255) = g v := if_pos ⟨f, List.mem_cons_self .., h⟩
      rw [if_pos h, e2, e]
      split
      · exact Nat.and_self _
      · rw [Nat.and_comm, nand255 hg]
    · rw [if_neg h]
      by_cases h2 : ∃ x ∈ r, x.1 = v
      · obtain ⟨x, hx, hv⟩ := h2
        rw [if_pos ⟨x, hx, hv⟩, if_pos ⟨x, List.mem_cons_of_mem _ hx, hv⟩]
      · rw [if_neg h2, if_neg]
        rintro ⟨x, hx, hv⟩
        rcases List.mem_cons.1 hx with rfl | hx
        · exact h hv
        · exact h2 ⟨x, hx, hv⟩
theorem lk_orL (a b : List (Int × Int)) (v : Int) : lk (orL a b) v = lk a v ||| lk b v := by
  unfold orL
  rw [lk_nrm, lk_map v (fun v => lk a v ||| lk b v) (nor_lt (lk_lt _ _) (lk_lt _ _))]
  split
  · rfl
  · rename_i h
    rw [lk_none (l := a) fun f hf e => h ⟨f, hf, e⟩, nor255 (lk_lt _ _)]
theorem orL_norm (a b : List (Int × Int)) : Norm (orL a b) := nrm_norm _
theorem orL_len (a b : List (Int × Int)) : (orL a b).length ≤ a.length := by unfold orL; exact Nat.le_trans (nrm_len _) (by simp)
theorem orL_of {a b m : List (Int × Int)} (h : Norm m) (k : ∀ v, lk m v = lk a v ||| lk b v) : m = orL a b := norm_ext h (orL_norm a b) fun v => by rw [k, lk_orL]

/-- facts -/
structure Fcs where
  never : Bool
  l : List (Int × Int)
structure Prp where
  th : Fcs
  el : Fcs
def fcs0 : Fcs := ⟨false, []⟩
def andF (a b : Fcs) : Fcs := if a.never || b.never then ⟨true, []⟩ else ⟨false, nrm (a.l ++ b.l)⟩
def orF (a b : Fcs) : Fcs := if a.never then andF b fcs0 else if b.never then andF a fcs0 else ⟨false, orL a.l b.l⟩
def stateF (v g : Int) : Fcs := ⟨false, nrm [(v, g)]⟩
def isP (v g : Int) : Prp := ⟨stateF v g, stateF v (-1 - g)⟩
def truthP (v : Int) : Prp := ⟨fcs0, stateF v 2⟩
def constP (b : Bool) : Prp := ⟨⟨!b, []⟩, ⟨b, []⟩⟩
def noneP : Prp := ⟨fcs0, fcs0⟩
def notP (p : Prp) : Prp := ⟨p.el, p.th⟩
def ifP (a b c : Prp) : Prp := ⟨orF (andF a.th b.th) (andF a.el c.th), orF (andF a.th b.el) (andF a.el c.el)⟩
theorem andF_len (a b : Fcs) : (andF a b).l.length ≤ a.l.length + b.l.length := by
  unfold andF
  split
  · simp
  · have := nrm_len (a.l ++ b.l); simpa using this
theorem orF_len (a b : Fcs) : (orF a b).l.length ≤ max a.l.length b.l.length := by
  unfold orF
  split
  · have := andF_len b fcs0; simp only [fcs0, List.length_nil] at this ⊢; omega
  · split
    · have := andF_len a fcs0; simp only [fcs0, List.length_nil] at this ⊢; omega
    · have := orL_len a.l b.l; simp only; omega

/-- the model's '&' and '|' of tags -/
theorem bv_nat {x : Nat} (h : x < 256) : (BitVec.ofInt 64 (x : Int)).toNat = x := by rw [BitVec.toNat_ofInt]; omega
theorem i64_and255 (n : Int) : bits .and .i64 n 255 = (lowN n : Int) := by
  have h : (BitVec.ofInt 64 255).toNat = 2 ^ 8 - 1 := by decide
  have key : (BitVec.ofInt 64 n &&& BitVec.ofInt 64 255).toNat = (n % ((2 ^ 64 : Nat) : Int)).toNat % 2 ^ 8 := by
    rw [BitVec.toNat_and, BitVec.toNat_ofInt, h, Nat.and_two_pow_sub_one_eq_mod]
  show IntKind.i64.wrap ((BitVec.ofInt 64 n &&& BitVec.ofInt 64 255).toNat : Nat) = (lowN n : Int)
  rw [key, IntKind.wrap_i64]
  unfold lowN
  omega
theorem i64_and {x y : Nat} (hx : x < 256) (hy : y < 256) : bits .and .i64 (x : Int) (y : Int) = ((x &&& y : Nat) : Int) := by
  show IntKind.i64.wrap ((BitVec.ofInt 64 (x : Int) &&& BitVec.ofInt 64 (y : Int)).toNat : Nat) = ((x &&& y : Nat) : Int)
  rw [BitVec.toNat_and, bv_nat hx, bv_nat hy, IntKind.wrap_i64]
  have := nand_lt x hy
  omega
theorem i64_or {x y : Nat} (hx : x < 256) (hy : y < 256) : bits .or .i64 (x : Int) (y : Int) = ((x ||| y : Nat) : Int) := by
  show IntKind.i64.wrap ((BitVec.ofInt 64 (x : Int) ||| BitVec.ofInt 64 (y : Int)).toNat : Nat) = ((x ||| y : Nat) : Int)
  rw [BitVec.toNat_or, bv_nat hx, bv_nat hy, IntKind.wrap_i64]
  have := nor_lt hx hy
  omega
end Go.Proofs.Ytgjkobkcmgliaaa
namespace Go.Proofs.Ytgjkobkcmgliaaa
open Go.RowKit

/-- one more of the sorted facts: the last one's tags are cut, or it is laid behind them -/
def merge1 (acc : List (Int × Int)) (f : Int × Int) : List (Int × Int) :=
  match acc.getLast? with
  | some x => if x.1 = f.1 then acc.dropLast ++ [(x.1, ((x.2.toNat &&& lowN f.2 : Nat) : Int))] else acc ++ [(f.1, (lowN f.2 : Int))]
  | none => [(f.1, (lowN f.2 : Int))]
def mergeF (d : List (Int × Int)) : List (Int × Int) := d.foldl merge1 []
theorem mergeF_snoc (d : List (Int × Int)) (f : Int × Int) : mergeF (d ++ [f]) = merge1 (mergeF d) f := by simp [mergeF]
theorem merge1_nil (f : Int × Int) : merge1 [] f = [(f.1, (lowN f.2 : Int))] := rfl
theorem merge1_snoc (acc : List (Int × Int)) (x f : Int × Int) : merge1 (acc ++ [x]) f = if x.1 = f.1 then acc ++ [(x.1, ((x.2.toNat &&& lowN f.2 : Nat) : Int))] else acc ++ [x] ++ [(f.1, (lowN f.2 : Int))] := by
  simp [merge1]
theorem mergeF_len (d : List (Int × Int)) : (mergeF d).length ≤ d.length := by
  have key : ∀ (d acc : List (Int × Int)), (d.foldl merge1 acc).length ≤ acc.length + d.length := by
    intro d
    induction d with
    | nil => intro acc; simp
    | cons f r ih =>
      intro acc
      rw [List.foldl_cons]
      have h1 := ih (merge1 acc f)
      have h2 : (merge1 acc f).length ≤ acc.length + 1 := by
        rcases List.eq_nil_or_concat acc with rfl | ⟨a, x, rfl⟩
        · rw [merge1_nil]; simp
        · rw [List.concat_eq_append, merge1_snoc]; split <;> simp
      simp only [List.length_cons]; omega
  have := key d []
  simpa [mergeF] using this
def Sorted (d : List (Int × Int)) : Prop := d.Pairwise (fun a b => a.1 ≤ b.1)
/-- what is known of the row that is being built -/
structure MgOk (acc d : List (Int × Int)) : Prop where
  rise : Rising acc
  rng : ∀ f ∈ acc, 0 ≤ f.2 ∧ f.2 ≤ 255
  lk : ∀ v, lk acc v = Go.Proofs.Ytgjkobkcmgliaaa.lk d v
  low : ∀ g ∈ acc, ∃ f ∈ d, f.1 = g.1
theorem low_rng (n : Int) : 0 ≤ (lowN n : Int) ∧ (lowN n : Int) ≤ 255 := by have := lowN_lt n; omega
theorem mgok_snoc {acc d : List (Int × Int)} {f : Int × Int} (h : MgOk acc d) (hs : ∀ g ∈ d, g.1 ≤ f.1) : MgOk (merge1 acc f) (d ++ [f]) := by
  obtain ⟨h1, h2, h3, h4⟩ := h
  rcases List.eq_nil_or_concat acc with rfl | ⟨a, x, rfl⟩
  · rw [merge1_nil]
    refine ⟨List.pairwise_singleton .., fun g hg => ?_, fun v => ?_, fun g hg => ?_⟩
    · rw [List.mem_singleton.1 hg]; exact low_rng _
    · rw [lk_snoc, ← h3, lk_cons, lk_nil]
      show (if f.1 = v then lowN (lowN f.2 : Int) &&& 255 else 255) = _
      rw [lowN_low, Nat.and_comm]
    · rw [List.mem_singleton.1 hg]; exact ⟨f, by simp, rfl⟩
  · rw [List.concat_eq_append] at *
    rw [merge1_snoc]
    have hx : 0 ≤ x.2 ∧ x.2 ≤ 255 := h2 x (by simp)
    have hlx : lowN x.2 = x.2.toNat := by unfold lowN; omega
    obtain ⟨ra, _, rx⟩ := List.pairwise_append.1 h1
    have rx : ∀ g ∈ a, g.1 < x.1 := fun g hg => rx g hg x (by simp)
    by_cases he : x.1 = f.1
    · rw [if_pos he]
      refine ⟨List.pairwise_append.2 ⟨ra, List.pairwise_singleton .., fun g hg y hy => ?_⟩, fun g hg => ?_, fun v => ?_, fun g hg => ?_⟩
      · rw [List.mem_singleton.1 hy]; exact rx g hg
      · rcases List.mem_append.1 hg with hg | hg
        · exact h2 g (by simp [hg])
        · rw [List.mem_singleton.1 hg]
          have := nand_lt x.2.toNat (lowN_lt f.2)
          show 0 ≤ ((x.2.toNat &&& lowN f.2 : Nat) : Int) ∧ ((x.2.toNat &&& lowN f.2 : Nat) : Int) ≤ 255
          omega
      · have e := h3 v
        rw [lk_snoc] at e
        rw [lk_snoc, lk_snoc, ← e, ← he]
        show (if x.1 = v then lk a v &&& lowN ((x.2.toNat &&& lowN f.2 : Nat) : Int) else lk a v) = _
        rw [lowN_nat (nand_lt _ (lowN_lt _)), hlx]
        by_cases hv : x.1 = v
        · simp only [hv, if_true, Nat.and_assoc]
        · simp only [hv, if_false]
      · rcases List.mem_append.1 hg with hg | hg
        · obtain ⟨y, hy, e⟩ := h4 g (by simp [hg]); exact ⟨y, by simp [hy], e⟩
        · rw [List.mem_singleton.1 hg]; exact ⟨f, by simp, he.symm⟩
    · rw [if_neg he]
      have hlt : x.1 < f.1 := by
        obtain ⟨y, hy, e⟩ := h4 x (by simp)
        have := hs y hy
        omega
      refine ⟨List.pairwise_append.2 ⟨h1, List.pairwise_singleton .., fun g hg y hy => ?_⟩, fun g hg => ?_, fun v => ?_, fun g hg => ?_⟩
      · rw [List.mem_singleton.1 hy]
        rcases List.mem_append.1 hg with hg | hg
        · have := rx g hg; show g.1 < f.1; omega
        · rw [List.mem_singleton.1 hg]; exact hlt
      · rcases List.mem_append.1 hg with hg | hg
        · exact h2 g hg
        · rw [List.mem_singleton.1 hg]; exact low_rng _
      · rw [lk_snoc (a ++ [x]), lk_snoc d, h3]
        show (if f.1 = v then _ &&& lowN (lowN f.2 : Int) else _) = _
        rw [lowN_low]
      · rcases List.mem_append.1 hg with hg | hg
        · obtain ⟨y, hy, e⟩ := h4 g hg; exact ⟨y, by simp [hy], e⟩
        · rw [List.mem_singleton.1 hg]; exact ⟨f, by simp, rfl⟩
theorem mergeF_ok {d : List (Int × Int)} (hs : Sorted d) : MgOk (mergeF d) d := by
  have key : ∀ k, k ≤ d.length → MgOk (mergeF (d.take k)) (d.take k) := by
    intro k
    induction k with
    | zero => intro _; exact ⟨List.Pairwise.nil, by simp [mergeF], fun _ => rfl, by simp [mergeF]⟩
    | succ k ih =>
      intro hk
      have ih := ih (by omega)
      rw [List.take_succ_eq_append_getElem (by omega : k < d.length), mergeF_snoc]
      refine mgok_snoc ih fun g hg => ?_
      have h3 : (d.take k ++ [d[k]]).Pairwise (fun a b => a.1 ≤ b.1) := by
        rw [← List.take_succ_eq_append_getElem (by omega : k < d.length)]; exact hs.sublist (List.take_sublist _ _)
      exact (List.pairwise_append.1 h3).2.2 g hg _ (by simp)
  have := key d.length (Nat.le_refl _)
  rwa [List.take_length] at this
/-- sorted, merged, and what states nothing left out: that is the normal form -/
theorem merge_nrm {l d : List (Int × Int)} (hp : d.Perm l) (hs : Sorted d) : dropF (mergeF d) = nrm l := by
  have h := mergeF_ok hs
  exact nrm_of (dropF_norm h.rise h.rng) fun v => by rw [lk_dropF v h.rng, h.lk, lk_perm hp]

/-- of two rows in normal form, what either states -/
def eitherL : List (Int × Int) → List (Int × Int) → List (Int × Int)
  | x :: r, y :: s => if x.1 < y.1 then eitherL r (y :: s) else if x.1 > y.1 then eitherL (x :: r) s else (x.1, ((x.2.toNat ||| y.2.toNat : Nat) : Int)) :: eitherL r s
  | [], _ => []
  | _ :: _, [] => []
termination_by a b => a.length + b.length
theorem either_nil (b : List (Int × Int)) : eitherL [] b = [] := by rw [eitherL]
theorem either_nil' (a : List (Int × Int)) : eitherL a [] = [] := by cases a <;> rw [eitherL]
theorem either_lt {x y : Int × Int} {r s : List (Int × Int)} (h : x.1 < y.1) : eitherL (x :: r) (y :: s) = eitherL r (y :: s) := by rw [eitherL, if_pos h]
theorem either_gt {x y : Int × Int} {r s : List (Int × Int)} (h : y.1 < x.1) : eitherL (x :: r) (y :: s) = eitherL (x :: r) s := by rw [eitherL, if_neg (by omega), if_pos h]
theorem either_eq {x y : Int × Int} {r s : List (Int × Int)} (h : x.1 = y.1) : eitherL (x :: r) (y :: s) = (x.1, ((x.2.toNat ||| y.2.toNat : Nat) : Int)) :: eitherL r s := by rw [eitherL, if_neg (by omega), if_neg (by omega)]
theorem either_len : ∀ (n : Nat) (a b : List (Int × Int)), a.length + b.length ≤ n → (eitherL a b).length ≤ a.length ∧ (eitherL a b).length ≤ b.length := by
  intro n
  induction n with
  | zero => intro a b h; obtain rfl := List.length_eq_zero_iff.1 (by omega : a.length = 0); rw [either_nil]; simp
  | succ n ih =>
    intro a b h
    match a, b with
    | [], b => rw [either_nil]; simp
    | x :: r, [] => rw [either_nil']; simp
    | x :: r, y :: s =>
      simp only [List.length_cons] at h ⊢
      rcases Int.lt_trichotomy x.1 y.1 with hlt | he | hlt
      · rw [either_lt hlt]; have := ih r (y :: s) (by simp only [List.length_cons]; omega); simp only [List.length_cons] at this; omega
      · rw [either_eq he]; have := ih r s (by omega); simp only [List.length_cons]; omega
      · rw [either_gt hlt]; have := ih (x :: r) s (by simp only [List.length_cons]; omega); simp only [List.length_cons] at this; omega
theorem norm_rng {l : List (Int × Int)} (h : Norm l) : ∀ f ∈ l, 0 ≤ f.2 ∧ f.2 ≤ 255 := fun f hf => by have := h.2 f hf; omega
theorem either_ok : ∀ (n : Nat) (a b : List (Int × Int)), a.length + b.length ≤ n → Norm a → Norm b →
    Rising (eitherL a b) ∧ (∀ f ∈ eitherL a b, 0 ≤ f.2 ∧ f.2 ≤ 255) ∧ (∀ v, lk (eitherL a b) v = lk a v ||| lk b v) ∧ ∀ f ∈ eitherL a b, (∃ g ∈ a, g.1 = f.1) ∧ ∃ g ∈ b, g.1 = f.1 := by
  intro n
  induction n with
  | zero =>
    intro a b h _ _
    obtain rfl := List.length_eq_zero_iff.1 (by omega : a.length = 0)
    rw [either_nil]
    exact ⟨List.Pairwise.nil, by simp, fun v => by rw [lk_nil, nor255 (lk_lt _ _)], by simp⟩
  | succ n ih =>
    intro a b h ha hb
    match a, b with
    | [], b => rw [either_nil]; exact ⟨List.Pairwise.nil, by simp, fun v => by rw [lk_nil, nor255 (lk_lt _ _)], by simp⟩
    | x :: r, [] => rw [either_nil']; exact ⟨List.Pairwise.nil, by simp, fun v => by rw [lk_nil, Nat.or_comm, nor255 (lk_lt _ _)], by simp⟩
    | x :: r, y :: s =>
      simp only [List.length_cons] at h
      have hx := rising_head ha.1
      have hy := rising_head hb.1
      rcases Int.lt_trichotomy x.1 y.1 with hlt | he | hlt
      · rw [either_lt hlt]
        obtain ⟨h1, h2, h3, h4⟩ := ih r (y :: s) (by simp only [List.length_cons]; omega) ha.tail hb
        refine ⟨h1, h2, fun v => ?_, fun f hf => ?_⟩
        · rw [h3, lk_cons x]
          split
          · rename_i hv
            have e : lk (y :: s) v = 255 := lk_below fun g hg => by
              rcases List.mem_cons.1 hg with rfl | hg
              · omega
              · have := hy g hg; omega
            rw [e, Nat.or_comm, nor255 (lk_lt _ _), Nat.or_comm, nor255 (nand_lt _ (lk_lt _ _))]
          · rfl
        · obtain ⟨⟨g, hg, e⟩, k⟩ := h4 f hf
          exact ⟨⟨g, List.mem_cons_of_mem _ hg, e⟩, k⟩
      · rw [either_eq he]
        obtain ⟨h1, h2, h3, h4⟩ := ih r s (by omega) ha.tail hb.tail
        have xr := ha.2 x (List.mem_cons_self ..)
        have yr := hb.2 y (List.mem_cons_self ..)
        have ex : lowN x.2 = x.2.toNat := by unfold lowN; omega
        have ey : lowN y.2 = y.2.toNat := by unfold lowN; omega
        have hor : x.2.toNat ||| y.2.toNat < 256 := nor_lt (by omega) (by omega)
        refine ⟨List.pairwise_cons.2 ⟨fun f hf => ?_, h1⟩, fun f hf => ?_, fun v => ?_, fun f hf => ?_⟩
        · obtain ⟨⟨g, hg, e⟩, _⟩ := h4 f hf
          have := hx g hg
          show x.1 < f.1
          omega
        · rcases List.mem_cons.1 hf with rfl | hf
          · show 0 ≤ ((x.2.toNat ||| y.2.toNat : Nat) : Int) ∧ ((x.2.toNat ||| y.2.toNat : Nat) : Int) ≤ 255
            omega
          · exact h2 f hf
        · rw [lk_cons, lk_cons x, lk_cons y, h3, ← he]
          show (if x.1 = v then lowN ((x.2.toNat ||| y.2.toNat : Nat) : Int) &&& _ else _) = _
          by_cases hv : x.1 = v
          · have er : lk r v = 255 := lk_below fun g hg => by have := hx g hg; omega
            have es : lk s v = 255 := lk_below fun g hg => by have := hy g hg; omega
            simp only [hv, if_true]
            rw [lowN_nat hor, er, es, ex, ey, nor255 (by omega), Nat.and_comm, nand255 hor, Nat.and_comm, nand255 (by omega), Nat.and_comm, nand255 (by omega)]
          · simp only [hv, if_false]
        · rcases List.mem_cons.1 hf with rfl | hf
          · exact ⟨⟨x, List.mem_cons_self .., rfl⟩, ⟨y, List.mem_cons_self .., he.symm⟩⟩
          · obtain ⟨⟨g, hg, e⟩, ⟨g', hg', e'⟩⟩ := h4 f hf
            exact ⟨⟨g, List.mem_cons_of_mem _ hg, e⟩, ⟨g', List.mem_cons_of_mem _ hg', e'⟩⟩
      · rw [either_gt hlt]
        obtain ⟨h1, h2, h3, h4⟩ := ih (x :: r) s (by simp only [List.length_cons]; omega) ha hb.tail
        refine ⟨h1, h2, fun v => ?_, fun f hf => ?_⟩
        · rw [h3, lk_cons y]
          split
          · rename_i hv
            have e : lk (x :: r) v = 255 := lk_below fun g hg => by
              rcases List.mem_cons.1 hg with rfl | hg
              · omega
              · have := hx g hg; omega
            rw [e, nor255 (lk_lt _ _), nor255 (nand_lt _ (lk_lt _ _))]
          · rfl
        · obtain ⟨k, ⟨g, hg, e⟩⟩ := h4 f hf
          exact ⟨k, ⟨g, List.mem_cons_of_mem _ hg, e⟩⟩
theorem either_orL (a b : List (Int × Int)) : dropF (eitherL (nrm a) (nrm b)) = orL a b := by
  obtain ⟨h1, h2, h3, _⟩ := either_ok _ (nrm a) (nrm b) (Nat.le_refl _) (nrm_norm a) (nrm_norm b)
  exact orL_of (dropF_norm h1 h2) fun v => by rw [lk_dropF v h2, h3, lk_nrm, lk_nrm]
end Go.Proofs.Ytgjkobkcmgliaaa
namespace Go.Proofs.Ytgjkobkcmgliaaa
open Go.RowKit

theorem retb {a b : Bool} (h : a = b) : Ending.returned (.bool a) = .returned (.bool b) := by rw [h]
theorem reti {k : IntKind} {a b : Int} (h : a = b) : Ending.returned (.int k a) = .returned (.int k b) := by rw [h]
def fa0 : Int × Int := (0, 0)
/-- a fact's cells -/
def faCells (f : Int × Int) : List Value := [.int .i64 f.1, .int .i64 f.2]
def fasCells (l : List (Int × Int)) : List Value := l.flatMap faCells
theorem fasCells_app (l m : List (Int × Int)) : fasCells (l ++ m) = fasCells l ++ fasCells m := by simp [fasCells]
theorem fasCells_snoc (l : List (Int × Int)) (f : Int × Int) : fasCells (l ++ [f]) = fasCells l ++ faCells f := by simp [fasCells]
theorem fasCells_len (l : List (Int × Int)) : (fasCells l).length = l.length * 2 := by
  induction l with
  | nil => rfl
  | cons f r ih =>
    have e : fasCells (f :: r) = [.int .i64 f.1, .int .i64 f.2] ++ fasCells r := rfl
    rw [e, List.length_append, ih, List.length_cons]; simp only [List.length_cons, List.length_nil]; omega
theorem fasCells_get (l : List (Int × Int)) (j : Nat) (hj : j < l.length) : (fasCells l)[j * 2]? = some (.int .i64 (l.getD j fa0).1) ∧ (fasCells l)[j * 2 + 1]? = some (.int .i64 (l.getD j fa0).2) := by
  induction l generalizing j with
  | nil => simp at hj
  | cons f r ih =>
    cases j with
    | zero => simp [fasCells, faCells]
    | succ j =>
      have := ih j (by simpa using hj)
      have e : fasCells (f :: r) = [.int .i64 f.1, .int .i64 f.2] ++ fasCells r := rfl
      rw [e, show (j + 1) * 2 = j * 2 + 2 by omega]
      refine ⟨?_, ?_⟩
      · rw [List.getElem?_append_right (by simp)]; simpa using this.1
      · rw [List.getElem?_append_right (by simp)]; simpa using this.2
theorem fasCells_one (l : List (Int × Int)) : ∀ u ∈ fasCells l, u.oneCell' = true := by
  intro u hu
  obtain ⟨f, _, hu⟩ := List.mem_flatMap.1 hu
  simp only [faCells, List.mem_cons, List.not_mem_nil, or_false] at hu
  rcases hu with rfl | rfl <;> rfl
/-- facts in memory, one behind another -/
def RowF (w : World) (b off : Nat) (l : List (Int × Int)) : Prop :=
  ∀ j, j < l.length → w.cell? ⟨b, off + j * 2, none⟩ = some (.int .i64 (l.getD j fa0).1) ∧ w.cell? ⟨b, off + j * 2 + 1, none⟩ = some (.int .i64 (l.getD j fa0).2)
theorem RowF.cell {w : World} {b off : Nat} {l : List (Int × Int)} (h : RowF w b off l) (j : Nat) (u : Value) (hj : (fasCells l)[j]? = some u) : w.cell? ((⟨b, off, none⟩ : Addr).add j) = some u := by
  have hlt := (List.getElem?_eq_some_iff.1 hj).1
  rw [fasCells_len] at hlt
  have hq : j / 2 < l.length := by omega
  have hg := fasCells_get l (j / 2) hq
  obtain ⟨h0, h1⟩ := h (j / 2) hq
  rw [Addr.add_lit]
  rcases (by omega : j = j / 2 * 2 ∨ j = j / 2 * 2 + 1) with e | e
  · rw [← e] at hg h0
    have : off + j / 2 * 2 = off + j := by omega
    rw [hj] at hg
    rw [Option.some.inj hg.1]
    rw [show off + j = off + j / 2 * 2 by omega]
    rw [show off + j / 2 * 2 = off + j by omega]
    exact h0
  · rw [← e] at hg
    rw [hj] at hg
    rw [Option.some.inj hg.2, show off + j = off + j / 2 * 2 + 1 by omega]
    exact h1
theorem RowF.mono {w w' : World} {b off : Nat} {l : List (Int × Int)} (h : RowF w b off l) (hc : ∀ o, w'.cell? ⟨b, o, none⟩ = w.cell? ⟨b, o, none⟩) : RowF w' b off l :=
  fun j hj => ⟨(hc _).trans (h j hj).1, (hc _).trans (h j hj).2⟩
/-- a slice of facts that lies in blocks from B on -/
def FaB (B : Nat) (w : World) (v : Value) (l : List (Int × Int)) : Prop :=
  (l = [] ∧ ∃ a c, v = .slice a 0 c) ∨ ∃ b off cap, v = .slice (some ⟨b, off, none⟩) l.length cap ∧ B ≤ b ∧ b < w.heap.size ∧ l.length ≤ maxLen ∧ l.length ≤ cap ∧ RowF w b off l
section
variable {B B' : Nat} {w w' : World} {v : Value} {l : List (Int × Int)}
theorem FaB.nil (B : Nat) (w : World) (a : Option Addr) (c : Nat) : FaB B w (.slice a 0 c) [] := .inl ⟨rfl, _, _, rfl⟩
theorem FaB.mono (h : FaB B w v l) (hB : B' ≤ B) : FaB B' w v l := by
  rcases h with h | ⟨b, off, cap, h1, h2, h3⟩
  · exact .inl h
  · exact .inr ⟨b, off, cap, h1, Nat.le_trans hB h2, h3⟩
theorem FaB.below (h : FaB B w v l) (hb : Below w.heap.size w w') : FaB B w' v l := by
  rcases h with h | ⟨b, off, cap, h1, h2, h3, h4, h5, h6⟩
  · exact .inl h
  · exact .inr ⟨b, off, cap, h1, h2, Nat.lt_of_lt_of_le h3 hb.size, h4, h5, h6.mono fun o => hb.cell (p := ⟨b, o, none⟩) h3⟩
theorem FaB.val (h : FaB B w v l) : ∃ a c, v = .slice a l.length c := by
  rcases h with ⟨rfl, a, c, rfl⟩ | ⟨b, off, cap, rfl, _⟩
  · exact ⟨a, c, rfl⟩
  · exact ⟨_, _, rfl⟩
theorem FaB.len (h : FaB B w v l) : l.length ≤ maxLen := by
  rcases h with ⟨rfl, _⟩ | ⟨b, off, cap, rfl, _, _, h, _⟩
  · unfold maxLen; simp
  · exact h
/-- a store in another block -/
theorem FaB.set (h : FaB B w v l) {p : Addr} (hp : p.block < B) (x : Value) : FaB B (w.setCell p x) v l := by
  rcases h with h | ⟨b, off, cap, h1, h2, h3, h4, h5, h6⟩
  · exact .inl h
  · refine .inr ⟨b, off, cap, h1, h2, by simpa [World.setCell] using h3, h4, h5, h6.mono fun o => ?_⟩
    simp only [World.cell?, Below.heap_setCell w p x b (by omega)]
theorem FaB.at (h : FaB B w v l) {j : Nat} (hj : j < l.length) : ∃ b off cap, v = .slice (some ⟨b, off, none⟩) l.length cap ∧ B ≤ b ∧ b < w.heap.size ∧ l.length ≤ maxLen ∧ l.length ≤ cap ∧ RowF w b off l := by
  rcases h with ⟨rfl, _⟩ | h
  · simp at hj
  · exact h
theorem FaB.of_own {e : Nat} (h : w.ownsRow B e 2 v l.length (fasCells l)) (hm : l.length ≤ maxLen) : FaB B w v l := by
  have hc := @World.ownsRow.cells _ _ _ _ _ _ _ h
  have hl := h.lt
  rcases h.2 with ⟨rfl, h0⟩ | ⟨g, cap, cur, rfl, hB, hg, hn, hr⟩
  · exact .inl ⟨List.length_eq_zero_iff.1 h0, _, _, rfl⟩
  · refine .inr ⟨g, 0, cap, rfl, (hl g rfl).1, (hl g rfl).2, hm, hn, fun j hj => ?_⟩
    obtain ⟨h1, h2⟩ := fasCells_get l j hj
    have e : ∀ i, (⟨g, 0, none⟩ : Addr).add i = ⟨g, 0 + i, none⟩ := fun i => by unfold Addr.add; split <;> simp_all
    refine ⟨?_, ?_⟩
    · have := hc (g := g) rfl _ _ h1; rw [e] at this; exact this
    · have := hc (g := g) rfl _ _ h2; rw [e] at this; exact this
/-- the cells of such a slice -/
theorem FaB.cells {a : Option Addr} {n c : Nat} (h : FaB B w (.slice a n c) l) : ∀ ad, a = some ad → ∀ j u, (fasCells l)[j]? = some u → ad.block < w.heap.size ∧ w.cell? (ad.add j) = some u := by
  intro ad ha j u hj
  rcases h with ⟨rfl, _⟩ | ⟨b, off, cap, e, _, h3, _, _, h6⟩
  · simp [fasCells] at hj
  · cases e; cases ha
    exact ⟨h3, h6.cell j u hj⟩
end
/-- facts, as a value of two cells -/
def FcB (B : Nat) (w : World) (v : Value) (F : Fcs) : Prop := ∃ a c, v = .agg #[.bool F.never, .slice a F.l.length c] ∧ FaB B w (.slice a F.l.length c) F.l
def PrB (B : Nat) (w : World) (v : Value) (p : Prp) : Prop :=
  ∃ a c a' c', v = .agg #[.bool p.th.never, .slice a p.th.l.length c, .bool p.el.never, .slice a' p.el.l.length c'] ∧ FaB B w (.slice a p.th.l.length c) p.th.l ∧ FaB B w (.slice a' p.el.l.length c') p.el.l
theorem FcB.below {B : Nat} {w w' : World} {v : Value} {F : Fcs} (h : FcB B w v F) (hb : Below w.heap.size w w') : FcB B w' v F := by
  obtain ⟨a, c, e, h⟩ := h; exact ⟨a, c, e, h.below hb⟩
theorem FcB.mono {B B' : Nat} {w : World} {v : Value} {F : Fcs} (h : FcB B w v F) (hB : B' ≤ B) : FcB B' w v F := by
  obtain ⟨a, c, e, h⟩ := h; exact ⟨a, c, e, h.mono hB⟩
theorem PrB.below {B : Nat} {w w' : World} {v : Value} {F : Prp} (h : PrB B w v F) (hb : Below w.heap.size w w') : PrB B w' v F := by
  obtain ⟨a, c, a', c', e, h1, h2⟩ := h; exact ⟨a, c, a', c', e, h1.below hb, h2.below hb⟩
theorem PrB.mono {B B' : Nat} {w : World} {v : Value} {F : Prp} (h : PrB B w v F) (hB : B' ≤ B) : PrB B' w v F := by
  obtain ⟨a, c, a', c', e, h1, h2⟩ := h; exact ⟨a, c, a', c', e, h1.mono hB, h2.mono hB⟩
/-- a block of its own that holds these cells -/
def Bx (w : World) (g : Nat) (T : TypeId) (cs : Array Value) : Prop := w.heap[g]? = some (.cells cs T (0, 0))
section
variable {w w' : World} {g : Nat} {T : TypeId} {cs : Array Value}
theorem Bx.c (h : Bx w g T cs) (i : Nat) : w.cell? ⟨g, i, none⟩ = cs[i]? := Lib.cell_of_heap h i
theorem Bx.fr (h : Bx w g T cs) (j : Nat) : w.frozen? ⟨g, j, none⟩ = false := Lib.frozen_of_heap h j
theorem Bx.lt (h : Bx w g T cs) : g < w.heap.size := (Array.getElem?_eq_some_iff.1 h).1
theorem Bx.keep (h : Bx w g T cs) (hb : Below w.heap.size w w') : Bx w' g T cs := (hb.block g h.lt).trans h
theorem Bx.under {B : Nat} (h : Bx w g T cs) (hb : Below B w w') (hg : g < B) : Bx w' g T cs := (hb.block g hg).trans h
theorem Bx.made (w : World) (T : TypeId) (cs : Array Value) : Bx (w.alloc (.cells cs T)) w.heap.size T cs := heap_alloc_new _ _
theorem Bx.set (h : Bx w g T cs) (i : Nat) (x : Value) : Bx (w.setCell ⟨g, i, none⟩ x) g T (cs.setIfInBounds i x) := by
  unfold Bx at *
  simp [World.setCell, Array.getElem?_modify, h]
theorem Bx.other {m i : Nat} {x : Value} (h : Bx w g T cs) (hm : g ≠ m) : Bx (w.setCell ⟨m, i, none⟩ x) g T cs := by
  unfold Bx at *
  simp [World.setCell, Array.getElem?_modify, h, hm.symm]
end
theorem Bx.c0 {w : World} {g : Nat} {T : TypeId} {x y : Value} (h : Bx w g T #[x, y]) : w.cell? ⟨g, 0, none⟩ = some x := h.c 0
theorem Bx.c1 {w : World} {g : Nat} {T : TypeId} {x y : Value} (h : Bx w g T #[x, y]) : w.cell? ⟨g, 1, none⟩ = some y := h.c 1
theorem Bx.d0 {w : World} {g : Nat} {T : TypeId} {x y z u : Value} (h : Bx w g T #[x, y, z, u]) : w.cell? ⟨g, 0, none⟩ = some x := h.c 0
theorem Bx.d1 {w : World} {g : Nat} {T : TypeId} {x y z u : Value} (h : Bx w g T #[x, y, z, u]) : w.cell? ⟨g, 1, none⟩ = some y := h.c 1
theorem Bx.d2 {w : World} {g : Nat} {T : TypeId} {x y z u : Value} (h : Bx w g T #[x, y, z, u]) : w.cell? ⟨g, 2, none⟩ = some z := h.c 2
theorem Bx.d3 {w : World} {g : Nat} {T : TypeId} {x y z u : Value} (h : Bx w g T #[x, y, z, u]) : w.cell? ⟨g, 3, none⟩ = some u := h.c 3
theorem size_alloc (w : World) (o : Obj) : (w.alloc o).heap.size = w.heap.size + 1 := by simp
theorem add_lit0 (g i : Nat) : (⟨g, 0, none⟩ : Addr).add i = ⟨g, i, none⟩ := by unfold Addr.add; split <;> simp_all
theorem Try.infoFa : (Try.prog.info? 61).map (fun i => (i.zero, i.size, i.bytes)) = some (some (.agg #[.int .i64 0, .int .i64 0]), 2, 16) := by kernel_rfl
theorem Try.infoFaR : (Try.prog.info? 76).map (fun i => (i.zero, i.size, i.bytes)) = some (some (.agg #[.int .i64 0, .int .i64 0]), 2, 16) := by kernel_rfl

theorem low_any (n : Int) (w : World) : Calls Try.prog 54 #[.int .i64 n] w fun e w' => e = .returned (.int .i64 (lowN n)) ∧ w' = w := by
  have hb := i64_and255 n
  go_enter Try.func54, Try.ntmps54
  go_wp2
  go_ret
  exact ⟨rfl, rfl⟩
end Go.Proofs.Ytgjkobkcmgliaaa
