import Derived.Test.YtgjkobkcmgliaaaNwTp
namespace Go.Proofs.Ytgjkobkcmgliaaa
open Go.RowKit

/-- the model's '&' of a tag and any number -/
theorem i64_andt {x : Nat} (hx : x < 256) (g : Int) : bits .and .i64 (x : Int) g = ((x &&& lowN g : Nat) : Int) := by
  show IntKind.i64.wrap ((BitVec.ofInt 64 (x : Int) &&& BitVec.ofInt 64 g).toNat : Nat) = ((x &&& lowN g : Nat) : Int)
  have key : (BitVec.ofInt 64 (x : Int) &&& BitVec.ofInt 64 g).toNat = x &&& lowN g := by
    rw [BitVec.toNat_and, bv_nat hx, BitVec.toNat_ofInt]
    have e1 : x &&& (g % ((2 ^ 64 : Nat) : Int)).toNat = x &&& (255 &&& (g % ((2 ^ 64 : Nat) : Int)).toNat) := by
      rw [← Nat.and_assoc, Nat.and_comm x 255, nand255 hx]
    have e2 : 255 &&& (g % ((2 ^ 64 : Nat) : Int)).toNat = lowN g := by
      rw [Nat.and_comm]
      have h := Nat.and_two_pow_sub_one_eq_mod (g % ((2 ^ 64 : Nat) : Int)).toNat 8
      rw [show 2 ^ 8 - 1 = 255 from rfl] at h
      rw [h]; unfold lowN; omega
    rw [e1, e2]
  rw [key, IntKind.wrap_i64]
  have := nand_lt x (lowN_lt g)
  omega

def vl0 : Int × Bool := (0, false)
/-- a tag: one of eight -/
def BitOk (x : Int) : Prop := x = 1 ∨ x = 2 ∨ x = 4 ∨ x = 8 ∨ x = 16 ∨ x = 32 ∨ x = 64 ∨ x = 128
theorem bit_all : ∀ m, m < 256 → ∀ b ∈ [1, 2, 4, 8, 16, 32, 64, 128], (b &&& m = b ∨ b &&& m = 0) ∧ (b &&& m = 0 → b &&& (255 - m) = b) := by decide +kernel
theorem BitOk.nat {x : Int} (h : BitOk x) : ∃ b : Nat, x = (b : Int) ∧ b ∈ [1, 2, 4, 8, 16, 32, 64, 128] := by
  rcases h with h | h | h | h | h | h | h | h <;> subst h
  · exact ⟨1, rfl, by decide⟩
  · exact ⟨2, rfl, by decide⟩
  · exact ⟨4, rfl, by decide⟩
  · exact ⟨8, rfl, by decide⟩
  · exact ⟨16, rfl, by decide⟩
  · exact ⟨32, rfl, by decide⟩
  · exact ⟨64, rfl, by decide⟩
  · exact ⟨128, rfl, by decide⟩
theorem mem8_rng {b : Nat} (h : b ∈ [1, 2, 4, 8, 16, 32, 64, 128]) : 0 < b ∧ b < 256 := by
  simp only [List.mem_cons, List.not_mem_nil, or_false] at h; omega

/-- is a test true, of values? of so many steps -/
def yesT (l : List (Int × Bool)) : Nat → Tst → Bool
  | 0, _ => true
  | n + 1, t =>
    if t.op = 0 then decide (0 ≤ t.vr ∧ t.vr < l.length ∧ ¬ bits .and .i64 (l.getD t.vr.toNat vl0).1 t.tags = 0) else
    if t.op = 1 then decide (t.vr < 0 ∨ (l.length : Int) ≤ t.vr ∨ ¬ (l.getD t.vr.toNat vl0).1 = 2 ∨ (l.getD t.vr.toNat vl0).2 = true) else
    if t.op = 2 then t.yes else
    if t.op = 3 then decide (t.of.length = 0) || !yesT l n (t.of.getD 0 te0) else
    if t.op = 4 then (if 2 < t.of.length ∧ yesT l n (t.of.getD 0 te0) = true then yesT l n (t.of.getD 1 te0) else decide (t.of.length < 3) || yesT l n (t.of.getD 2 te0)) else true
/-- are all of a test's variables values'? of so many steps -/
def winT (many : Int) : Nat → Tst → Bool
  | 0, _ => true
  | n + 1, t => !decide ((t.op = 0 ∨ t.op = 1) ∧ (t.vr < 0 ∨ many ≤ t.vr)) && t.of.all (winT many n)

/-- facts hold of values -/
def OkF (l : List (Int × Bool)) (f : Fcs) : Prop := f.never = false ∧ Norm f.l ∧ ∀ v : Int, (0 ≤ v ∧ v < l.length → ∀ b : Nat, (l.getD v.toNat vl0).1 = (b : Int) → b < 256 → b &&& lk f.l v = b) ∧ (¬ (0 ≤ v ∧ v < l.length) → lk f.l v = 255)
theorem norm_nil : Norm [] := Norm.nil
theorem nandb255 {b : Nat} (h : b < 256) : b &&& 255 = b := by rw [Nat.and_comm, nand255 h]
theorem ok_fcs0 (l : List (Int × Bool)) : OkF l fcs0 := ⟨rfl, norm_nil, fun _ => ⟨fun _ _ _ hb => nandb255 hb, fun _ => rfl⟩⟩
theorem ok_and {l : List (Int × Bool)} {a b : Fcs} (ha : OkF l a) (hb : OkF l b) : OkF l (andF a b) := by
  obtain ⟨a1, _, a3⟩ := ha
  obtain ⟨b1, _, b3⟩ := hb
  have e : andF a b = ⟨false, nrm (a.l ++ b.l)⟩ := by unfold andF; rw [a1, b1]; rfl
  rw [e]
  refine ⟨rfl, nrm_norm _, fun v => ⟨fun hv x hx hx2 => ?_, fun hv => ?_⟩⟩
  · show x &&& lk (nrm (a.l ++ b.l)) v = x
    rw [lk_nrm, lk_app, ← Nat.and_assoc, (a3 v).1 hv x hx hx2, (b3 v).1 hv x hx hx2]
  · show lk (nrm (a.l ++ b.l)) v = 255
    rw [lk_nrm, lk_app, (a3 v).2 hv, (b3 v).2 hv]; rfl
theorem nand_or (b x y : Nat) (h : b &&& x = b) : b &&& (x ||| y) = b := by
  rw [Nat.and_or_distrib_left, h]
  refine Nat.eq_of_testBit_eq fun i => ?_
  rw [Nat.testBit_or, Nat.testBit_and]
  cases Nat.testBit b i <;> simp
theorem ok_orl {l : List (Int × Bool)} {a : Fcs} (ha : OkF l a) (b : Fcs) : OkF l (orF a b) := by
  obtain ⟨a1, a2, a3⟩ := id ha
  unfold orF
  rw [a1, if_neg (by simp)]
  split
  · exact ok_and ha (ok_fcs0 l)
  · refine ⟨rfl, orL_norm _ _, fun v => ⟨fun hv x hx hx2 => ?_, fun hv => ?_⟩⟩
    · show x &&& lk (orL a.l b.l) v = x
      rw [lk_orL]; exact nand_or _ _ _ ((a3 v).1 hv x hx hx2)
    · show lk (orL a.l b.l) v = 255
      rw [lk_orL, (a3 v).2 hv, nor255 (lk_lt _ _)]
theorem ok_orr {l : List (Int × Bool)} (a : Fcs) {b : Fcs} (hb : OkF l b) : OkF l (orF a b) := by
  obtain ⟨b1, b2, b3⟩ := id hb
  unfold orF
  split
  · exact ok_and hb (ok_fcs0 l)
  · rw [b1, if_neg (by simp)]
    refine ⟨rfl, orL_norm _ _, fun v => ⟨fun hv x hx hx2 => ?_, fun hv => ?_⟩⟩
    · show x &&& lk (orL a.l b.l) v = x
      rw [lk_orL, Nat.or_comm]; exact nand_or _ _ _ ((b3 v).1 hv x hx hx2)
    · show lk (orL a.l b.l) v = 255
      rw [lk_orL, (b3 v).2 hv, Nat.or_comm, nor255 (lk_lt _ _)]
theorem lk_one (v g u : Int) : lk (nrm [(v, g)]) u = if v = u then lowN g else 255 := by
  rw [lk_nrm, lk_cons, lk_nil]
  split
  · rw [Nat.and_comm, nand255 (lowN_lt _)]
  · rfl
theorem ok_state {l : List (Int × Bool)} {v g : Int} (h0 : 0 ≤ v) (h1 : v < l.length) (h : ∀ b : Nat, (l.getD v.toNat vl0).1 = (b : Int) → b < 256 → b &&& lowN g = b) : OkF l (stateF v g) := by
  refine ⟨rfl, nrm_norm _, fun u => ⟨fun hu x hx hx2 => ?_, fun hu => ?_⟩⟩
  · show x &&& lk (nrm [(v, g)]) u = x
    rw [lk_one]
    split
    · rename_i e; subst e; exact h x hx hx2
    · exact nandb255 hx2
  · show lk (nrm [(v, g)]) u = 255
    rw [lk_one, if_neg]
    intro e; subst e; exact hu ⟨h0, h1⟩
theorem lowN_not (g : Int) : lowN (-1 - g) = 255 - lowN g := by unfold lowN; omega
theorem bits_of (l : List (Int × Bool)) (hl : ∀ x ∈ l, BitOk x.1) {v : Int} (h0 : 0 ≤ v) (h1 : v < l.length) : ∃ b : Nat, (l.getD v.toNat vl0).1 = (b : Int) ∧ b ∈ [1, 2, 4, 8, 16, 32, 64, 128] := by
  have hv : v.toNat < l.length := by omega
  rw [List.getD_eq_getElem?_getD, List.getElem?_eq_getElem hv]
  exact (hl _ (List.getElem_mem hv)).nat

theorem win_of {many : Int} {n : Nat} {t : Tst} (h : winT many (n + 1) t = true) : ∀ i, i < t.of.length → winT many n (t.of.getD i te0) = true := by
  intro i hi
  unfold winT at h
  rw [Bool.and_eq_true, List.all_eq_true] at h
  rw [List.getD_eq_getElem?_getD, List.getElem?_eq_getElem hi]
  exact h.2 _ (List.getElem_mem hi)
theorem lit_of {n : Nat} {t : Tst} (h : litT (n + 1) t = true) : ∀ i, i < t.of.length → litT n (t.of.getD i te0) = true := by
  intro i hi
  unfold litT at h
  rw [Bool.and_eq_true, List.all_eq_true] at h
  rw [List.getD_eq_getElem?_getD, List.getElem?_eq_getElem hi]
  exact h.2 _ (List.getElem_mem hi)
/-- where a test is true, what its first facts say holds; where it is false, what its second ones say -/
theorem holds_T (l : List (Int × Bool)) (hl : ∀ x ∈ l, BitOk x.1) : ∀ (n : Nat) (t : Tst), litT n t = true → winT (l.length : Int) n t = true → OkF l (if yesT l n t = true then (prpT n t).th else (prpT n t).el) := by
  intro n
  induction n with
  | zero => intro t h; cases h
  | succ n ih =>
    intro t hlit hwin
    have hin : (t.op = 0 ∨ t.op = 1) → 0 ≤ t.vr ∧ t.vr < l.length := by
      intro ho
      unfold winT at hwin
      rw [Bool.and_eq_true] at hwin
      have h := hwin.1
      simp only [Bool.not_eq_true', decide_eq_false_iff_not] at h
      have : ¬ (t.vr < 0 ∨ (l.length : Int) ≤ t.vr) := fun hh => h ⟨ho, hh⟩
      omega
    have hL := lit_of hlit
    have hW := win_of hwin
    have IH : ∀ i, i < t.of.length → OkF l (if yesT l n (t.of.getD i te0) = true then (prpT n (t.of.getD i te0)).th else (prpT n (t.of.getD i te0)).el) := fun i hi => ih _ (hL i hi) (hW i hi)
    clear ih hL hW hlit hwin
    unfold prpT yesT
    by_cases h0 : t.op = 0
    · obtain ⟨v0, v1⟩ := hin (.inl h0)
      obtain ⟨b, hb, hm⟩ := bits_of l hl v0 v1
      have hbl := (mem8_rng hm).2
      have hal := bit_all (lowN t.tags) (lowN_lt _) b hm
      rw [if_pos h0, if_pos h0]
      by_cases hz : b &&& lowN t.tags = 0
      · rw [if_neg]
        · show OkF l (stateF t.vr (-1 - t.tags))
          refine ok_state v0 v1 fun x hx _ => ?_
          have : x = b := by rw [hb] at hx; omega
          subst this
          rw [lowN_not]; exact hal.2 hz
        · rw [decide_eq_true_eq]
          rintro ⟨_, _, h⟩
          exact h (by rw [hb, i64_andt hbl, hz]; rfl)
      · rw [if_pos]
        · show OkF l (stateF t.vr t.tags)
          refine ok_state v0 v1 fun x hx _ => ?_
          have : x = b := by rw [hb] at hx; omega
          subst this
          rcases hal.1 with h | h
          · exact h
          · exact absurd h hz
        · rw [decide_eq_true_eq]
          refine ⟨v0, v1, fun h => hz ?_⟩
          rw [hb, i64_andt hbl] at h
          omega
    rw [if_neg h0, if_neg h0]
    by_cases h1 : t.op = 1
    · obtain ⟨v0, v1⟩ := hin (.inr h1)
      rw [if_pos h1, if_pos h1]
      split
      · exact ok_fcs0 l
      · rename_i h
        rw [decide_eq_true_eq] at h
        show OkF l (stateF t.vr 2)
        refine ok_state v0 v1 fun x hx _ => ?_
        have h2 : (l.getD t.vr.toNat vl0).1 = 2 := Classical.byContradiction fun hh => h (.inr (.inr (.inl hh)))
        have : x = 2 := by rw [h2] at hx; omega
        subst this
        rfl
    rw [if_neg h1, if_neg h1]
    by_cases h2 : t.op = 2
    · rw [if_pos h2, if_pos h2]
      cases t.yes
      · exact ok_fcs0 l
      · exact ok_fcs0 l
    rw [if_neg h2, if_neg h2]
    by_cases h3 : t.op = 3
    · rw [if_pos h3]
      by_cases hm : 0 < t.of.length
      · have := IH 0 hm
        rw [if_pos (show t.op = 3 ∧ 0 < t.of.length from ⟨h3, hm⟩), show decide (t.of.length = 0) = false from decide_eq_false (by omega), Bool.false_or]
        cases hy : yesT l n (t.of.getD 0 te0)
        · rw [hy] at this; exact this
        · rw [hy] at this; exact this
      · rw [if_neg (show ¬ (t.op = 3 ∧ 0 < t.of.length) from fun h => hm h.2), if_neg (show ¬ (t.op = 4 ∧ 2 < t.of.length) from fun h => by have := h.1; omega), show decide (t.of.length = 0) = true from decide_eq_true (by omega)]
        exact ok_fcs0 l
    rw [if_neg h3, if_neg (show ¬ (t.op = 3 ∧ 0 < t.of.length) from fun h => h3 h.1)]
    by_cases h4 : t.op = 4
    · rw [if_pos h4]
      by_cases hm : 2 < t.of.length
      · have k0 := IH 0 (by omega)
        have k1 := IH 1 (by omega)
        have k2 := IH 2 (by omega)
        rw [if_pos (show t.op = 4 ∧ 2 < t.of.length from ⟨h4, hm⟩), show decide (t.of.length < 3) = false from decide_eq_false (by omega), Bool.false_or]
        cases h5 : yesT l n (t.of.getD 0 te0)
        · rw [h5] at k0
          rw [if_neg (show ¬ (2 < t.of.length ∧ false = true) from fun h => by simp at h)]
          cases h6 : yesT l n (t.of.getD 2 te0)
          · rw [h6] at k2; exact ok_orr _ (ok_and k0 k2)
          · rw [h6] at k2; exact ok_orr _ (ok_and k0 k2)
        · rw [h5] at k0
          rw [if_pos (show 2 < t.of.length ∧ true = true from ⟨hm, rfl⟩)]
          cases h6 : yesT l n (t.of.getD 1 te0)
          · rw [h6] at k1; exact ok_orl (ok_and k0 k1) _
          · rw [h6] at k1; exact ok_orl (ok_and k0 k1) _
      · rw [if_neg (show ¬ (t.op = 4 ∧ 2 < t.of.length) from fun h => hm h.2), if_neg (show ¬ (2 < t.of.length ∧ yesT l n (t.of.getD 0 te0) = true) from fun h => hm h.1), show decide (t.of.length < 3) = true from decide_eq_true (by omega)]
        exact ok_fcs0 l
    rw [if_neg h4, if_neg (show ¬ (t.op = 4 ∧ 2 < t.of.length) from fun h => h4 h.1)]
    exact ok_fcs0 l
theorem lk_mem : ∀ {l : List (Int × Int)}, Rising l → ∀ x ∈ l, lk l x.1 = lowN x.2
  | [], _, x, hx => by cases hx
  | y :: r, h, x, hx => by
    rcases List.mem_cons.1 hx with rfl | hx
    · exact lk_head h
    · rw [lk_cons, if_neg (by have := rising_head h x hx; omega)]
      exact lk_mem h.of_cons x hx
/-- what is asked of each fact -/
theorem ok_each {l : List (Int × Bool)} (hl : ∀ x ∈ l, BitOk x.1) {f : Fcs} (h : OkF l f) : ∀ x ∈ f.l, 0 ≤ x.1 ∧ x.1 < l.length ∧ ¬ bits .and .i64 (l.getD x.1.toNat vl0).1 x.2 = 0 := by
  intro x hx
  obtain ⟨_, h2, h3⟩ := h
  have hr := h2.2 x hx
  have e := lk_mem h2.1 x hx
  have e2 := lowN_rng hr.1 (by omega)
  have hin : 0 ≤ x.1 ∧ x.1 < l.length := by
    refine Classical.byContradiction fun hh => ?_
    have := (h3 x.1).2 hh
    omega
  obtain ⟨b, hb, hm⟩ := bits_of l hl hin.1 hin.2
  have hbl := mem8_rng hm
  have k := (h3 x.1).1 hin b hb hbl.2
  refine ⟨hin.1, hin.2, fun hz => ?_⟩
  rw [hb, i64_andt hbl.2, ← e, k] at hz
  omega
end Go.Proofs.Ytgjkobkcmgliaaa
