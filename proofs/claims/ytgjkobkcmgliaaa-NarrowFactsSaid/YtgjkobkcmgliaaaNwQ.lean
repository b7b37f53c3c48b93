import Derived.Test.YtgjkobkcmgliaaaNwP
namespace Go.Proofs.Ytgjkobkcmgliaaa
open Go.RowKit

/-- one more of the sorted facts: the last one's tags are cut, or it is laid behind them -/
def merge1 (acc : List (Int × Int)) (f : Int × Int) : List (Int × Int) :=
  match acc.getLast? with
  | some x => if x.1 = f.1 then acc.dropLast ++ [(x.1, ((x.2.toNat &&& lowN f.2 : Nat) : Int))] else acc ++ [(f.1, (lowN f.2 : Int))]
  | none => [(f.1, (lowN f.2 : Int))]
def mergeF (d : List (Int × Int)) : List (Int × Int) := d.foldl merge1 []
theorem mergeF_snoc (d : List (Int × Int)) (f : Int × Int) : mergeF (d ++ [f]) = merge1 (mergeF d) f := by simp [mergeF]
theorem merge1_nil (f : Int × Int) : merge1 [] f = [(f.1, (lowN f.2 : Int))] := rfl
theorem merge1_snoc (acc : List (Int × Int)) (x f : Int × Int) : merge1 (acc ++ [x]) f = if x.1 = f.1 then acc ++ [(x.1, ((x.2.toNat &&& lowN f.2 : Nat) : Int))] else acc ++ [x] ++ [(f.1, (lowN f.2 : Int))] := by
  simp [merge1]
theorem mergeF_len (d : List (Int × Int)) : (mergeF d).length ≤ d.length := by
  have key : ∀ (d acc : List (Int × Int)), (d.foldl merge1 acc).length ≤ acc.length + d.length := by
    intro d
    induction d with
    | nil => intro acc; simp
    | cons f r ih =>
      intro acc
      rw [List.foldl_cons]
      have h1 := ih (merge1 acc f)
      have h2 : (merge1 acc f).length ≤ acc.length + 1 := by
        rcases List.eq_nil_or_concat acc with rfl | ⟨a, x, rfl⟩
        · rw [merge1_nil]; simp
        · rw [List.concat_eq_append, merge1_snoc]; split <;> simp
      simp only [List.length_cons]; omega
  have := key d []
  simpa [mergeF] using this
def Sorted (d : List (Int × Int)) : Prop := d.Pairwise (fun a b => a.1 ≤ b.1)
/-- what is known of the row that is being built -/
structure MgOk (acc d : List (Int × Int)) : Prop where
  rise : Rising acc
  rng : ∀ f ∈ acc, 0 ≤ f.2 ∧ f.2 ≤ 255
  lk : ∀ v, lk acc v = Go.Proofs.Ytgjkobkcmgliaaa.lk d v
  low : ∀ g ∈ acc, ∃ f ∈ d, f.1 = g.1
theorem low_rng (n : Int) : 0 ≤ (lowN n : Int) ∧ (lowN n : Int) ≤ 255 := by have := lowN_lt n; omega
theorem mgok_snoc {acc d : List (Int × Int)} {f : Int × Int} (h : MgOk acc d) (hs : ∀ g ∈ d, g.1 ≤ f.1) : MgOk (merge1 acc f) (d ++ [f]) := by
  obtain ⟨h1, h2, h3, h4⟩ := h
  rcases List.eq_nil_or_concat acc with rfl | ⟨a, x, rfl⟩
  · rw [merge1_nil]
    refine ⟨List.pairwise_singleton .., fun g hg => ?_, fun v => ?_, fun g hg => ?_⟩
    · rw [List.mem_singleton.1 hg]; exact low_rng _
    · rw [lk_snoc, ← h3, lk_cons, lk_nil]
      show (if f.1 = v then lowN (lowN f.2 : Int) &&& 255 else 255) = _
      rw [lowN_low, Nat.and_comm]
    · rw [List.mem_singleton.1 hg]; exact ⟨f, by simp, rfl⟩
  · rw [List.concat_eq_append] at *
    rw [merge1_snoc]
    have hx : 0 ≤ x.2 ∧ x.2 ≤ 255 := h2 x (by simp)
    have hlx : lowN x.2 = x.2.toNat := by unfold lowN; omega
    obtain ⟨ra, _, rx⟩ := List.pairwise_append.1 h1
    have rx : ∀ g ∈ a, g.1 < x.1 := fun g hg => rx g hg x (by simp)
    by_cases he : x.1 = f.1
    · rw [if_pos he]
      refine ⟨List.pairwise_append.2 ⟨ra, List.pairwise_singleton .., fun g hg y hy => ?_⟩, fun g hg => ?_, fun v => ?_, fun g hg => ?_⟩
      · rw [List.mem_singleton.1 hy]; exact rx g hg
      · rcases List.mem_append.1 hg with hg | hg
        · exact h2 g (by simp [hg])
        · rw [List.mem_singleton.1 hg]
          have := nand_lt x.2.toNat (lowN_lt f.2)
          show 0 ≤ ((x.2.toNat &&& lowN f.2 : Nat) : Int) ∧ ((x.2.toNat &&& lowN f.2 : Nat) : Int) ≤ 255
          omega
      · have e := h3 v
        rw [lk_snoc] at e
        rw [lk_snoc, lk_snoc, ← e, ← he]
        show (if x.1 = v then lk a v &&& lowN ((x.2.toNat &&& lowN f.2 : Nat) : Int) else lk a v) = _
        rw [lowN_nat (nand_lt _ (lowN_lt _)), hlx]
        by_cases hv : x.1 = v
        · simp only [hv, if_true, Nat.and_assoc]
        · simp only [hv, if_false]
      · rcases List.mem_append.1 hg with hg | hg
        · obtain ⟨y, hy, e⟩ := h4 g (by simp [hg]); exact ⟨y, by simp [hy], e⟩
        · rw [List.mem_singleton.1 hg]; exact ⟨f, by simp, he.symm⟩
    · rw [if_neg he]
      have hlt : x.1 < f.1 := by
        obtain ⟨y, hy, e⟩ := h4 x (by simp)
        have := hs y hy
        omega
      refine ⟨List.pairwise_append.2 ⟨h1, List.pairwise_singleton .., fun g hg y hy => ?_⟩, fun g hg => ?_, fun v => ?_, fun g hg => ?_⟩
      · rw [List.mem_singleton.1 hy]
        rcases List.mem_append.1 hg with hg | hg
        · have := rx g hg; show g.1 < f.1; omega
        · rw [List.mem_singleton.1 hg]; exact hlt
      · rcases List.mem_append.1 hg with hg | hg
        · exact h2 g hg
        · rw [List.mem_singleton.1 hg]; exact low_rng _
      · rw [lk_snoc (a ++ [x]), lk_snoc d, h3]
        show (if f.1 = v then _ &&& lowN (lowN f.2 : Int) else _) = _
        rw [lowN_low]
      · rcases List.mem_append.1 hg with hg | hg
        · obtain ⟨y, hy, e⟩ := h4 g hg; exact ⟨y, by simp [hy], e⟩
        · rw [List.mem_singleton.1 hg]; exact ⟨f, by simp, rfl⟩
theorem mergeF_ok {d : List (Int × Int)} (hs : Sorted d) : MgOk (mergeF d) d := by
  have key : ∀ k, k ≤ d.length → MgOk (mergeF (d.take k)) (d.take k) := by
    intro k
    induction k with
    | zero => intro _; exact ⟨List.Pairwise.nil, by simp [mergeF], fun _ => rfl, by simp [mergeF]⟩
    | succ k ih =>
      intro hk
      have ih := ih (by omega)
      rw [List.take_succ_eq_append_getElem (by omega : k < d.length), mergeF_snoc]
      refine mgok_snoc ih fun g hg => ?_
      have h3 : (d.take k ++ [d[k]]).Pairwise (fun a b => a.1 ≤ b.1) := by
        rw [← List.take_succ_eq_append_getElem (by omega : k < d.length)]; exact hs.sublist (List.take_sublist _ _)
      exact (List.pairwise_append.1 h3).2.2 g hg _ (by simp)
  have := key d.length (Nat.le_refl _)
  rwa [List.take_length] at this
/-- sorted, merged, and what states nothing left out: that is the normal form -/
theorem merge_nrm {l d : List (Int × Int)} (hp : d.Perm l) (hs : Sorted d) : dropF (mergeF d) = nrm l := by
  have h := mergeF_ok hs
  exact nrm_of (dropF_norm h.rise h.rng) fun v => by rw [lk_dropF v h.rng, h.lk, lk_perm hp]

/-- of two rows in normal form, what either states -/
def eitherL : List (Int × Int) → List (Int × Int) → List (Int × Int)
  | x :: r, y :: s => if x.1 < y.1 then eitherL r (y :: s) else if x.1 > y.1 then eitherL (x :: r) s else (x.1, ((x.2.toNat ||| y.2.toNat : Nat) : Int)) :: eitherL r s
  | [], _ => []
  | _ :: _, [] => []
termination_by a b => a.length + b.length
theorem either_nil (b : List (Int × Int)) : eitherL [] b = [] := by rw [eitherL]
theorem either_nil' (a : List (Int × Int)) : eitherL a [] = [] := by cases a <;> rw [eitherL]
theorem either_lt {x y : Int × Int} {r s : List (Int × Int)} (h : x.1 < y.1) : eitherL (x :: r) (y :: s) = eitherL r (y :: s) := by rw [eitherL, if_pos h]
theorem either_gt {x y : Int × Int} {r s : List (Int × Int)} (h : y.1 < x.1) : eitherL (x :: r) (y :: s) = eitherL (x :: r) s := by rw [eitherL, if_neg (by omega), if_pos h]
theorem either_eq {x y : Int × Int} {r s : List (Int × Int)} (h : x.1 = y.1) : eitherL (x :: r) (y :: s) = (x.1, ((x.2.toNat ||| y.2.toNat : Nat) : Int)) :: eitherL r s := by rw [eitherL, if_neg (by omega), if_neg (by omega)]
theorem either_len : ∀ (n : Nat) (a b : List (Int × Int)), a.length + b.length ≤ n → (eitherL a b).length ≤ a.length ∧ (eitherL a b).length ≤ b.length := by
  intro n
  induction n with
  | zero => intro a b h; obtain rfl := List.length_eq_zero_iff.1 (by omega : a.length = 0); rw [either_nil]; simp
  | succ n ih =>
    intro a b h
    match a, b with
    | [], b => rw [either_nil]; simp
    | x :: r, [] => rw [either_nil']; simp
    | x :: r, y :: s =>
      simp only [List.length_cons] at h ⊢
      rcases Int.lt_trichotomy x.1 y.1 with hlt | he | hlt
      · rw [either_lt hlt]; have := ih r (y :: s) (by simp only [List.length_cons]; omega); simp only [List.length_cons] at this; omega
      · rw [either_eq he]; have := ih r s (by omega); simp only [List.length_cons]; omega
      · rw [either_gt hlt]; have := ih (x :: r) s (by simp only [List.length_cons]; omega); simp only [List.length_cons] at this; omega
theorem norm_rng {l : List (Int × Int)} (h : Norm l) : ∀ f ∈ l, 0 ≤ f.2 ∧ f.2 ≤ 255 := fun f hf => by have := h.2 f hf; omega
theorem either_ok : ∀ (n : Nat) (a b : List (Int × Int)), a.length + b.length ≤ n → Norm a → Norm b →
    Rising (eitherL a b) ∧ (∀ f ∈ eitherL a b, 0 ≤ f.2 ∧ f.2 ≤ 255) ∧ (∀ v, lk (eitherL a b) v = lk a v ||| lk b v) ∧ ∀ f ∈ eitherL a b, (∃ g ∈ a, g.1 = f.1) ∧ ∃ g ∈ b, g.1 = f.1 := by
  intro n
  induction n with
  | zero =>
    intro a b h _ _
    obtain rfl := List.length_eq_zero_iff.1 (by omega : a.length = 0)
    rw [either_nil]
    exact ⟨List.Pairwise.nil, by simp, fun v => by rw [lk_nil, nor255 (lk_lt _ _)], by simp⟩
  | succ n ih =>
    intro a b h ha hb
    match a, b with
    | [], b => rw [either_nil]; exact ⟨List.Pairwise.nil, by simp, fun v => by rw [lk_nil, nor255 (lk_lt _ _)], by simp⟩
    | x :: r, [] => rw [either_nil']; exact ⟨List.Pairwise.nil, by simp, fun v => by rw [lk_nil, Nat.or_comm, nor255 (lk_lt _ _)], by simp⟩
    | x :: r, y :: s =>
      simp only [List.length_cons] at h
      have hx := rising_head ha.1
      have hy := rising_head hb.1
      rcases Int.lt_trichotomy x.1 y.1 with hlt | he | hlt
      · rw [either_lt hlt]
        obtain ⟨h1, h2, h3, h4⟩ := ih r (y :: s) (by simp only [List.length_cons]; omega) ha.tail hb
        refine ⟨h1, h2, fun v => ?_, fun f hf => ?_⟩
        · rw [h3, lk_cons x]
          split
          · rename_i hv
            have e : lk (y :: s) v = 255 := lk_below fun g hg => by
              rcases List.mem_cons.1 hg with rfl | hg
              · omega
              · have := hy g hg; omega
            rw [e, Nat.or_comm, nor255 (lk_lt _ _), Nat.or_comm, nor255 (nand_lt _ (lk_lt _ _))]
          · rfl
        · obtain ⟨⟨g, hg, e⟩, k⟩ := h4 f hf
          exact ⟨⟨g, List.mem_cons_of_mem _ hg, e⟩, k⟩
      · rw [either_eq he]
        obtain ⟨h1, h2, h3, h4⟩ := ih r s (by omega) ha.tail hb.tail
        have xr := ha.2 x (List.mem_cons_self ..)
        have yr := hb.2 y (List.mem_cons_self ..)
        have ex : lowN x.2 = x.2.toNat := by unfold lowN; omega
        have ey : lowN y.2 = y.2.toNat := by unfold lowN; omega
        have hor : x.2.toNat ||| y.2.toNat < 256 := nor_lt (by omega) (by omega)
        refine ⟨List.pairwise_cons.2 ⟨fun f hf => ?_, h1⟩, fun f hf => ?_, fun v => ?_, fun f hf => ?_⟩
        · obtain ⟨⟨g, hg, e⟩, _⟩ := h4 f hf
          have := hx g hg
          show x.1 < f.1
          omega
        · rcases List.mem_cons.1 hf with rfl | hf
          · show 0 ≤ ((x.2.toNat ||| y.2.toNat : Nat) : Int) ∧ ((x.2.toNat ||| y.2.toNat : Nat) : Int) ≤ 255
            omega
          · exact h2 f hf
        · rw [lk_cons, lk_cons x, lk_cons y, h3, ← he]
          show (if x.1 = v then lowN ((x.2.toNat ||| y.2.toNat : Nat) : Int) &&& _ else _) = _
          by_cases hv : x.1 = v
          · have er : lk r v = 255 := lk_below fun g hg => by have := hx g hg; omega
            have es : lk s v = 255 := lk_below fun g hg => by have := hy g hg; omega
            simp only [hv, if_true]
            rw [lowN_nat hor, er, es, ex, ey, nor255 (by omega), Nat.and_comm, nand255 hor, Nat.and_comm, nand255 (by omega), Nat.and_comm, nand255 (by omega)]
          · simp only [hv, if_false]
        · rcases List.mem_cons.1 hf with rfl | hf
          · exact ⟨⟨x, List.mem_cons_self .., rfl⟩, ⟨y, List.mem_cons_self .., he.symm⟩⟩
          · obtain ⟨⟨g, hg, e⟩, ⟨g', hg', e'⟩⟩ := h4 f hf
            exact ⟨⟨g, List.mem_cons_of_mem _ hg, e⟩, ⟨g', List.mem_cons_of_mem _ hg', e'⟩⟩
      · rw [either_gt hlt]
        obtain ⟨h1, h2, h3, h4⟩ := ih (x :: r) s (by simp only [List.length_cons]; omega) ha hb.tail
        refine ⟨h1, h2, fun v => ?_, fun f hf => ?_⟩
        · rw [h3, lk_cons y]
          split
          · rename_i hv
            have e : lk (x :: r) v = 255 := lk_below fun g hg => by
              rcases List.mem_cons.1 hg with rfl | hg
              · omega
              · have := hx g hg; omega
            rw [e, nor255 (lk_lt _ _), nor255 (nand_lt _ (lk_lt _ _))]
          · rfl
        · obtain ⟨k, ⟨g, hg, e⟩⟩ := h4 f hf
          exact ⟨k, ⟨g, List.mem_cons_of_mem _ hg, e⟩⟩
theorem either_orL (a b : List (Int × Int)) : dropF (eitherL (nrm a) (nrm b)) = orL a b := by
  obtain ⟨h1, h2, h3, _⟩ := either_ok _ (nrm a) (nrm b) (Nat.le_refl _) (nrm_norm a) (nrm_norm b)
  exact orL_of (dropF_norm h1 h2) fun v => by rw [lk_dropF v h2, h3, lk_nrm, lk_nrm]
end Go.Proofs.Ytgjkobkcmgliaaa
