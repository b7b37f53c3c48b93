import Derived.Test.YtgjkobkcmgliaaaNwK
import Derived.Test.YtgjkobkcmgliaaaNwO
import Derived.Test.YtgjkobkcmgliaaaTyJ
import Derived.Test.YtgjkobkcmgliaaaTyRt
namespace Go.Proofs.Ytgjkobkcmgliaaa
open Go.RowKit

theorem low_wrap (X : Nat) : lowN (IntKind.i64.wrap (X : Int)) = X % 256 := by
  rw [IntKind.wrap_i64]
  unfold lowN
  omega
theorem low_mod (A : Nat) (a : Int) (ha : (A : Int) % 256 = a % 256) : A % 256 = lowN a := by
  unfold lowN; omega
theorem low_aux (A B : Nat) (a b : Int) (ha : (A : Int) % 256 = a % 256) (hb : (B : Int) % 256 = b % 256) : lowN (IntKind.i64.wrap ((A &&& B : Nat) : Int)) = lowN a &&& lowN b := by
  rw [low_wrap, ← low_mod A a ha, ← low_mod B b hb]
  exact Nat.and_mod_two_pow (a := A) (b := B) (n := 8)
theorem low_of (a : Int) : ((BitVec.ofInt 64 a).toNat : Int) % 256 = a % 256 := by rw [BitVec.toNat_ofInt]; omega
theorem low_and (a b : Int) : lowN (bits .and .i64 a b) = lowN a &&& lowN b := by
  have e0 : bits .and .i64 a b = IntKind.i64.wrap (((BitVec.ofInt 64 a).toNat &&& (BitVec.ofInt 64 b).toNat : Nat) : Int) := by
    show IntKind.i64.wrap ((BitVec.ofInt 64 a &&& BitVec.ofInt 64 b).toNat : Nat) = _
    rw [BitVec.toNat_and]
  exact (congrArg lowN e0).trans (low_aux _ _ a b (low_of a) (low_of b))
theorem nand_tab (F : Nat) (hF : F < 64) (G : Nat) (hG : G < 256) (P K : Bool) : (F &&& G) + (if P = true ∧ G &&& 64 ≠ 0 then 64 else 0) + (if K = true ∧ G &&& 128 ≠ 0 then 128 else 0) = (F + (if P then 64 else 0) + (if K then 128 else 0)) &&& G := by
  have g1 := Nat.and_div_two_pow (a := G) (b := 64) (n := 6)
  have g2 := Nat.and_mod_two_pow (a := G) (b := 64) (n := 6)
  have g3 := Nat.and_div_two_pow (a := G) (b := 128) (n := 6)
  have g4 := Nat.and_mod_two_pow (a := G) (b := 128) (n := 6)
  have f1 := Nat.and_mod_two_pow (a := F) (b := G) (n := 6)
  have f2 : F &&& G ≤ F := Nat.and_le_left
  simp only [show 2 ^ 6 = 64 from rfl, show 64 / 64 = 1 from rfl, show 64 % 64 = 0 from rfl, show 128 / 64 = 2 from rfl, Nat.and_zero] at g1 g2 g3 g4 f1
  have key : ∀ m, m < 4 → (F + 64 * m) &&& G = (F &&& G) + 64 * (m &&& (G / 64)) := fun m hm => by
    have x1 := Nat.and_div_two_pow (a := F + 64 * m) (b := G) (n := 6)
    have x2 := Nat.and_mod_two_pow (a := F + 64 * m) (b := G) (n := 6)
    simp only [show 2 ^ 6 = 64 from rfl, show (F + 64 * m) / 64 = m by omega, show (F + 64 * m) % 64 = F by omega] at x1 x2
    rw [show F % 64 = F by omega] at f1
    omega
  obtain ⟨q, hq⟩ : ∃ q, q = G / 64 := ⟨_, rfl⟩
  rw [← hq] at g1 g3 key
  have hq4 : q < 4 := by omega
  have k0 := key 0 (by omega)
  have k1 := key 1 (by omega)
  have k2 := key 2 (by omega)
  have k3 := key 3 (by omega)
  rcases (by omega : q = 0 ∨ q = 1 ∨ q = 2 ∨ q = 3) with rfl | rfl | rfl | rfl <;> simp at g1 g3 k0 k1 k2 k3 <;> cases P <;> cases K <;> simp [Nat.add_assoc] <;> (try split) <;> (try split) <;> omega
theorem comp_tab : ∀ G, G < 256 → (G ||| (255 - G) = 255) ∧ (G &&& 64 = 0 → (255 - G) &&& 64 ≠ 0) ∧ (G &&& 64 ≠ 0 → (255 - G) &&& 64 = 0) ∧ (G &&& 128 = 0 → (255 - G) &&& 128 ≠ 0) ∧ (G &&& 128 ≠ 0 → (255 - G) &&& 128 = 0) := by decide +kernel
theorem low_comp (g : Int) : lowN (-1 - g) = 255 - lowN g := by unfold lowN; omega
theorem tagsT_rng {t : Ty} (h : HdT t) : 0 ≤ tagsT t ∧ tagsT t ≤ 255 := by
  obtain ⟨h1, h2, h3, h4, h5, h6, _⟩ := headH h
  unfold tagsT
  split
  · omega
  · split <;> split <;> omega
theorem tags_cut {t : Ty} (h : HdT t) (ha : t.all = false) (G : Nat) (hG : G < 256) : tagsT (cutT t G) = (((tagsT t).toNat &&& G : Nat) : Int) := by
  obtain ⟨h1, h2, h3, h4, h5, h6, _⟩ := headH h
  have e := nand_tab t.flat.toNat (by omega) G hG (decide (t.pair ≠ 0)) (decide (t.fn ≠ 0))
  have e1 : tagsT t = ((t.flat.toNat + (if t.pair ≠ 0 then 64 else 0) + (if t.fn ≠ 0 then 128 else 0) : Nat) : Int) := by
    unfold tagsT
    rw [ha, if_neg (by decide)]
    split <;> split <;> omega
  have e2 : tagsT (cutT t G) = (((t.flat.toNat &&& G) + (if t.pair ≠ 0 ∧ G &&& 64 ≠ 0 then 64 else 0) + (if t.fn ≠ 0 ∧ G &&& 128 ≠ 0 then 128 else 0) : Nat) : Int) := by
    show (if t.all = true then (255 : Int) else ((t.flat.toNat &&& G : Nat) : Int) + (if (if G &&& 64 = 0 then 0 else t.pair) ≠ 0 then 64 else 0) + (if (if G &&& 128 = 0 then 0 else t.fn) ≠ 0 then 128 else 0)) = _
    rw [ha, if_neg (by decide)]
    by_cases c1 : G &&& 64 = 0 <;> by_cases c2 : G &&& 128 = 0 <;> by_cases c3 : t.pair = 0 <;> by_cases c4 : t.fn = 0 <;> simp [c1, c2, c3, c4]
  simp only [decide_eq_true_eq] at e
  rw [e2, e1, Int.toNat_natCast, e]
theorem tags_keep {t : Ty} (h : HdT t) (G : Nat) (hG : G < 256) : tagsT (keepT t G) = (((tagsT t).toNat &&& G : Nat) : Int) := by
  unfold keepT
  cases ha : t.all with
  | false => simp only [Bool.false_and, Bool.false_eq_true, if_false]; exact tags_cut h ha G hG
  | true =>
    have e : t = tyAll := all_eqT h ha
    subst e
    have e1 : (tagsT tyAll).toNat &&& G = G := by show 255 &&& G = G; exact nand255 hG
    rw [e1]
    by_cases c : G = 255
    · subst c; rfl
    · simp only [c, decide_false, Bool.and_false, Bool.false_eq_true, if_false, if_true]
      rw [tags_cut (show HdT allT by show headOK allT = true; decide) rfl G hG]
      show (((255 &&& G : Nat)) : Int) = _
      rw [nand255 hG]
theorem deep_cut {n : Nat} {t : Ty} (h : deepF (n + 1) t = true) (ha : t.all = false) (G : Nat) : deepF (n + 1) (cutT t G) = true := by
  rw [deepF_succ, Bool.and_eq_true, Bool.and_eq_true] at h ⊢
  refine ⟨⟨hd_cut h.1.1 ha G, ?_⟩, ?_⟩
  · show (if G &&& 64 = 0 then [] else t.pairs).all (deepF n) = true
    split
    · rfl
    · exact h.1.2
  · show (if G &&& 128 = 0 then [] else t.funs).all (deepF n) = true
    split
    · rfl
    · exact h.2
theorem deep_keep {t : Ty} (h : deepF 20 t = true) (G : Nat) : deepF 20 (keepT t G) = true := by
  unfold keepT
  split
  · decide
  · split
    · exact deep_cut (n := 19) (by decide) rfl G
    · rename_i h2; exact deep_cut h (by simpa using h2) G
theorem sz_cut (t : Ty) (G : Nat) : szT (cutT t G) ≤ szT t := by
  rw [szT_eq, szT_eq t]
  show 1 + szTs (if G &&& 64 = 0 then [] else t.pairs) + szTs (if G &&& 128 = 0 then [] else t.funs) ≤ _
  split <;> split <;> (try simp only [szTs]) <;> omega
theorem sz_keep (t : Ty) (G : Nat) : szT (keepT t G) ≤ szT t + 3 := by
  unfold keepT
  split
  · show 1 ≤ _; have := szT_pos t; omega
  · split
    · have := sz_cut allT G
      have e : szT allT = 3 := by decide
      omega
    · have := sz_cut t G; omega
theorem rng_cut {t : Ty} (h : RngT t) (h0 : 0 ≤ t.flat) (h1 : t.flat ≤ 63) (G : Nat) : RngT (cutT t G) := by
  refine .mk _ ?_ ?_ ?_
  · show -9223372036854775808 ≤ ((t.flat.toNat &&& G : Nat) : Int) ∧ ((t.flat.toNat &&& G : Nat) : Int) ≤ 9223372036854775807
    have : t.flat.toNat &&& G ≤ t.flat.toNat := Nat.and_le_left
    omega
  · show ∀ x ∈ (if G &&& 64 = 0 then [] else t.pairs), RngT x
    split
    · intro x hx; cases hx
    · exact fun x hx => h.pair hx
  · show ∀ x ∈ (if G &&& 128 = 0 then [] else t.funs), RngT x
    split
    · intro x hx; cases hx
    · exact fun x hx => h.fun hx
theorem rng_all : RngT tyAll := .mk _ ⟨by decide, by decide⟩ (fun x hx => by cases hx) (fun x hx => by cases hx)
theorem rng_keep {t : Ty} (h : RngT t) (ho : HdT t) (G : Nat) : RngT (keepT t G) := by
  obtain ⟨h1, h2, _⟩ := headH ho
  unfold keepT
  split
  · exact rng_all
  · split
    · refine rng_cut (.mk _ ⟨by decide, by decide⟩ (fun x hx => ?_) (fun x hx => by cases hx)) (by decide) (by decide) G
      have : x = tyAll := by simpa [allT, Ty.pairs] using hx
      rw [this]; exact rng_all
    · exact rng_cut h h1 h2 G
theorem sub_cut {t : Ty} (h : okTy t) (ha : t.all = false) (G : Nat) (hc : okTy (cutT t G)) : subT (cutT t G) t = true := by
  have h0 := (headH h.head).1
  have key := ((subT_iff h h).1 (sub_refl t h)).resolve_left (by rw [ha]; decide)
  refine (subT_iff hc h).2 (.inr ⟨ha, ?_, ?_, ?_⟩)
  · refine (flat_mem (by show 0 ≤ ((t.flat.toNat &&& G : Nat) : Int); omega) h0).2 fun j _ hj => ?_
    have hj : (t.flat.toNat &&& G) / 2 ^ j % 2 = 1 := hj
    have e := Nat.testBit_and t.flat.toNat G j
    simp only [Nat.testBit_eq_decide_div_mod_eq, hj] at e
    simpa using (by simpa using e : _ ∧ _).1
  · by_cases c : G &&& 64 = 0
    · exact .inl (show (if G &&& 64 = 0 then 0 else t.pair) = 0 from if_pos c)
    · exact pairs_same hc ha rfl (show t.pair = if G &&& 64 = 0 then 0 else t.pair from (if_neg c).symm) (show t.pairs = if G &&& 64 = 0 then [] else t.pairs from (if_neg c).symm)
  · by_cases c : G &&& 128 = 0
    · exact .inl (show (if G &&& 128 = 0 then 0 else t.fn) = 0 from if_pos c)
    · have e1 : (cutT t G).fn = t.fn := if_neg c
      have e2 : (cutT t G).funs = t.funs := if_neg c
      rw [e1, e2]; exact key.2.2.2
theorem sub_keep {t : Ty} (h : deepF 20 t = true) (G : Nat) : subT (keepT t G) t = true := by
  have ok : okTy t := ⟨20, h⟩
  have okc : okTy (keepT t G) := ⟨20, deep_keep h G⟩
  cases ha : t.all with
  | true => have e := all_eqT ok.head ha; subst e; exact sub_top okc
  | false =>
    have e : keepT t G = cutT t G := by unfold keepT; rw [ha]; rfl
    rw [e] at okc ⊢
    exact sub_cut ok ha G okc
theorem join_cut {t : Ty} (h : okTy t) (ha : t.all = false) (G : Nat) (hG : G < 256) (h1 : okTy (cutT t G)) (h2 : okTy (cutT t (255 - G))) : joinT (cutT t G) (cutT t (255 - G)) = t := by
  obtain ⟨c0, c1, c2, c3, c4⟩ := comp_tab G hG
  obtain ⟨f0, f1, p0, p1, k0, k1, _, hp, hk, _⟩ := headH h.head
  rw [joinT_eq h1 h2]
  have hfl : flatJoin ((t.flat.toNat &&& G : Nat) : Int) ((t.flat.toNat &&& (255 - G) : Nat) : Int) = t.flat := by
    have b1 : t.flat.toNat &&& G ≤ t.flat.toNat := Nat.and_le_left
    have b2 : t.flat.toNat &&& (255 - G) ≤ t.flat.toNat := Nat.and_le_left
    rw [fj (by omega) (by omega) (by omega) (by omega)]
    simp only [Int.toNat_natCast]
    rw [← Nat.and_or_distrib_left, c0, Nat.and_comm, nand255 (by omega)]
    omega
  have hps : t.pair = 0 → t.pairs = [] := fun e => List.length_eq_zero_iff.1 (by rw [e] at hp; simpa using hp)
  have hks : t.fn = 0 → t.funs = [] := fun e => List.length_eq_zero_iff.1 (hk (by rw [e]; decide))
  obtain ⟨a, f, p, ps, k, fs⟩ := t
  simp only [Ty.all, Ty.flat, Ty.pair, Ty.pairs, Ty.fn, Ty.funs] at ha hfl hps hks
  subst ha
  simp only [joinStep, cutT, Ty.all, Ty.flat, Ty.pair, Ty.pairs, Ty.fn, Ty.funs, hfl, Bool.or_false, Bool.false_eq_true, if_false]
  by_cases d1 : G &&& 64 = 0 <;> by_cases d2 : G &&& 128 = 0 <;> by_cases d3 : p = 0 <;> by_cases d4 : k = 0 <;> simp_all
theorem join_keep {t : Ty} (h : deepF 20 t = true) (ha : t.all = false) (g : Int) : joinT (keepT t (lowN g)) (keepT t (lowN (-1 - g))) = t := by
  have e : ∀ G, keepT t G = cutT t G := fun G => by unfold keepT; rw [ha]; rfl
  have d1 := deep_keep h (lowN g)
  have d2 := deep_keep h (lowN (-1 - g))
  rw [e] at d1 d2
  rw [e, e]
  rw [low_comp] at d2 ⊢
  exact join_cut ⟨20, h⟩ ha _ (lowN_lt g) ⟨20, d1⟩ ⟨20, d2⟩
end Go.Proofs.Ytgjkobkcmgliaaa
