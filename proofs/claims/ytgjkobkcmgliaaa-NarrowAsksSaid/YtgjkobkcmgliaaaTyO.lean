import Derived.Test.YtgjkobkcmgliaaaTyM
namespace Go.Proofs.Ytgjkobkcmgliaaa
open Go.RowKit

theorem flat_mem {f g : Int} (h0 : 0 ≤ f) (h1 : 0 ≤ g) : flatSub f g = true ↔ ∀ j, j < 6 → (f.toNat / 2 ^ j % 2 = 1 → g.toNat / 2 ^ j % 2 = 1) := by
  obtain ⟨F, rfl⟩ : ∃ F : Nat, f = F := ⟨f.toNat, by omega⟩
  obtain ⟨G, rfl⟩ : ∃ G : Nat, g = G := ⟨g.toNat, by omega⟩
  simp only [Int.toNat_natCast]
  have e : ∀ j, ((!(bitOf (F : Int) ((2 ^ j : Nat) : Int) && ((G : Int).tdiv ((2 ^ j : Nat) : Int)).tmod 2 == 0)) = true) ↔ (F / 2 ^ j % 2 = 1 → G / 2 ^ j % 2 = 1) := by
    intro j
    have h1 : (((F : Int).tdiv ((2 ^ j : Nat) : Int)).tmod 2) = ((F / 2 ^ j % 2 : Nat) : Int) := rfl
    have h2 : (((G : Int).tdiv ((2 ^ j : Nat) : Int)).tmod 2) = ((G / 2 ^ j % 2 : Nat) : Int) := rfl
    unfold bitOf
    rw [h1, h2]
    simp only [Bool.not_eq_true', Bool.and_eq_false_iff, beq_eq_false_iff_ne, ne_eq]
    omega
  unfold flatSub
  rw [show ([1, 2, 4, 8, 16, 32] : List Int) = (List.range 6).map (fun j => ((2 ^ j : Nat) : Int)) from rfl, List.all_map, List.all_eq_true]
  constructor
  · intro h j hj
    exact (e j).1 (h j (List.mem_range.2 hj))
  · intro h j hj
    exact (e j).2 (h j (List.mem_range.1 hj))
theorem flat_refl {f : Int} (h : 0 ≤ f) : flatSub f f = true := (flat_mem h h).2 fun _ _ h => h
theorem flat_trans {f g k : Int} (hf : 0 ≤ f) (hg : 0 ≤ g) (hk : 0 ≤ k) (h1 : flatSub f g = true) (h2 : flatSub g k = true) : flatSub f k = true :=
  (flat_mem hf hk).2 fun j hj h => (flat_mem hg hk).1 h2 j hj ((flat_mem hf hg).1 h1 j hj h)
theorem flat_zero {g : Int} (h : 0 ≤ g) : flatSub 0 g = true := (flat_mem (Int.le_refl _) h).2 fun j _ h => by simp at h

/-- what it says that one is of the other -/
theorem subT_iff {a b : Ty} (ha : okTy a) (hb : okTy b) : subT a b = true ↔ b.all = true ∨ (a.all = false ∧ flatSub a.flat b.flat = true ∧
    (a.pair = 0 ∨ (b.pair ≠ 0 ∧ subT (carT a) (carT b) = true ∧ ((a.pair = 1 ∨ b.pair = 1) → subT (cdrT a) (cdrT b) = true))) ∧
    (a.fn = 0 ∨ b.fn = 2 ∨ (b.fn ≠ 0 ∧ a.fn ≠ 2 ∧ a.funs.length = b.funs.length ∧ (∀ i, i < a.funs.length - 1 → subT (b.funs.getD i ty0) (a.funs.getD i ty0) = true) ∧ subT (a.funs.getD (a.funs.length - 1) ty0) (b.funs.getD (a.funs.length - 1) ty0) = true))) := by
  rw [subT_eq ha hb]
  simp only [Bool.or_eq_true, Bool.and_eq_true, Bool.not_eq_true', beq_iff_eq, bne_iff_ne, List.all_eq_true, List.mem_range, Bool.or_eq_false_iff, beq_eq_false_iff_ne, and_assoc, or_assoc]
  refine or_congr Iff.rfl (and_congr Iff.rfl (and_congr Iff.rfl (and_congr (or_congr Iff.rfl (and_congr Iff.rfl (and_congr Iff.rfl ?_))) Iff.rfl)))
  constructor
  · rintro (⟨h1, h2⟩ | h)
    · rintro (h | h)
      · exact absurd h h1
      · exact absurd h h2
    · exact fun _ => h
  · intro h
    by_cases h1 : a.pair = 1 ∨ b.pair = 1
    · exact .inr (h h1)
    · exact .inl ⟨fun e => h1 (.inl e), fun e => h1 (.inr e)⟩
theorem ok0 : okTy ty0 := ⟨1, by rfl⟩
theorem okAll : okTy tyAll := ⟨1, by rfl⟩
theorem sub_top {a : Ty} (ha : okTy a) : subT a tyAll = true := (subT_iff ha okAll).2 (.inl rfl)
theorem sub_bot {a : Ty} (ha : okTy a) : subT ty0 a = true := by
  rw [subT_iff ok0 ha]
  cases h : a.all with
  | true => exact .inl rfl
  | false => exact .inr ⟨rfl, flat_zero (headP ha).1, .inl rfl, .inl rfl⟩
theorem car_listT (x : Ty) : carT (listT x) = x := rfl
theorem list_sub {x y : Ty} (hx : okTy x) (hy : okTy y) (h : subT x y = true) : subT (listT x) (listT y) = true := by
  rw [subT_iff (listOK hx) (listOK hy)]
  refine .inr ⟨rfl, flat_refl (by show (0 : Int) ≤ 16; decide), .inr ⟨by show (2 : Int) ≠ 0; decide, by rw [car_listT, car_listT]; exact h, ?_⟩, .inl rfl⟩
  rintro (h1 | h1)
  · exact absurd h1 (by show ¬ (2 : Int) = 1; decide)
  · exact absurd h1 (by show ¬ (2 : Int) = 1; decide)
theorem fun_one {a : Ty} (ha : okTy a) (h0 : a.fn ≠ 0) (h2 : a.fn ≠ 2) : 1 ≤ a.funs.length := by
  have := headP ha
  exact (this.2.2.2.2.2.2.2.2.2 (by omega)).1
/-- each type is of itself -/
theorem sub_refl (a : Ty) (ha : okTy a) : subT a a = true := by
  have key : ∀ n a, okTy a → szT a ≤ n → subT a a = true := by
    intro n
    induction n with
    | zero => intro a _ h; have := szT_pos a; omega
    | succ n ih =>
      intro a ha hn
      rw [subT_iff ha ha]
      cases hall : a.all with
      | true => exact .inl rfl
      | false =>
        refine .inr ⟨rfl, flat_refl (headP ha).1, ?_, ?_⟩
        · by_cases h0 : a.pair = 0
          · exact .inl h0
          · have hc := carS ha hall h0
            have hd := cdrS ha hall h0
            exact .inr ⟨h0, ih _ hc.2 (by omega), fun h => ih _ hd.2.2 (by have := hd.2.1 (by rcases h with h | h <;> exact h); omega)⟩
        · by_cases h0 : a.fn = 0
          · exact .inl h0
          · by_cases h2 : a.fn = 2
            · exact .inr (.inl h2)
            · have hl := fun_one ha h0 h2
              have hi : ∀ i, i < a.funs.length → subT (a.funs.getD i ty0) (a.funs.getD i ty0) = true := fun i hi => ih _ (ha.fun (getT_mem hi)) (by have := szT_fun a i hi; omega)
              exact .inr (.inr ⟨h0, h2, rfl, fun i h => hi i (by omega), hi _ (by omega)⟩)
  exact key _ a ha (Nat.le_refl _)
/-- where one is of the other, so are the cdrs -/
theorem sub_cdr {a b : Ty} (ha : okTy a) (hb : okTy b) (hba : b.all = false) (h : subT a b = true) (hp : a.pair ≠ 0) : subT (cdrT a) (cdrT b) = true := by
  have h1 := ((subT_iff ha hb).1 h).resolve_left (by rw [hba]; simp)
  have h2 := h1.2.2.1.resolve_left hp
  by_cases hone : a.pair = 1 ∨ b.pair = 1
  · exact h2.2.2 hone
  · have ea := headP ha
    have eb := headP hb
    have a2 : a.pair = 2 := by omega
    have b2 : b.pair = 2 := by have := h2.1; omega
    rw [cdr_list ha h1.1 a2, cdr_list hb hba b2]
    exact list_sub (carS ha h1.1 hp).2 (carS hb hba h2.1).2 h2.2.1
/-- what is of what is of one is of that -/
theorem sub_trans (a b c : Ty) (ha : okTy a) (hb : okTy b) (hc : okTy c) (h1 : subT a b = true) (h2 : subT b c = true) : subT a c = true := by
  have key : ∀ n a b c, okTy a → okTy b → okTy c → szT a + szT b + szT c ≤ n → subT a b = true → subT b c = true → subT a c = true := by
    intro n
    induction n with
    | zero => intro a b c _ _ _ h; have := szT_pos a; omega
    | succ n ih =>
      intro a b c ha hb hc hn h1 h2
      rw [subT_iff ha hc]
      cases hcall : c.all with
      | true => exact .inl rfl
      | false =>
        have g2 := ((subT_iff hb hc).1 h2).resolve_left (by rw [hcall]; simp)
        have g1 := ((subT_iff ha hb).1 h1).resolve_left (by rw [g2.1]; simp)
        refine .inr ⟨g1.1, flat_trans (headP ha).1 (headP hb).1 (headP hc).1 g1.2.1 g2.2.1, ?_, ?_⟩
        · by_cases hp : a.pair = 0
          · exact .inl hp
          · have k1 := g1.2.2.1.resolve_left hp
            have k2 := g2.2.2.1.resolve_left k1.1
            have sa := carS ha g1.1 hp
            have sb := carS hb g2.1 k1.1
            have sc := carS hc hcall k2.1
            have da := cdrS ha g1.1 hp
            have db := cdrS hb g2.1 k1.1
            have dc := cdrS hc hcall k2.1
            refine .inr ⟨k2.1, ih _ _ _ sa.2 sb.2 sc.2 (by omega) k1.2.1 k2.2.1, fun hone => ?_⟩
            refine ih _ _ _ da.2.2 db.2.2 dc.2.2 ?_ (sub_cdr ha hb g2.1 h1 hp) (sub_cdr hb hc hcall h2 k1.1)
            rcases hone with h | h
            · have := da.2.1 h; omega
            · have := dc.2.1 h; omega
        · by_cases h0 : a.fn = 0
          · exact .inl h0
          · by_cases hc2 : c.fn = 2
            · exact .inr (.inl hc2)
            · have k1 := g1.2.2.2.resolve_left h0
              have hb0 : b.fn ≠ 0 := by
                rcases k1 with h | h
                · omega
                · exact h.1
              have k2 := (g2.2.2.2.resolve_left hb0).resolve_left hc2
              have k1' := k1.resolve_left k2.2.1
              have hl := fun_one ha h0 k1'.2.1
              have ia : ∀ i, i < a.funs.length → szT (a.funs.getD i ty0) < szT a ∧ okTy (a.funs.getD i ty0) := fun i hi => ⟨szT_fun a i hi, ha.fun (getT_mem hi)⟩
              have ib : ∀ i, i < b.funs.length → szT (b.funs.getD i ty0) < szT b ∧ okTy (b.funs.getD i ty0) := fun i hi => ⟨szT_fun b i hi, hb.fun (getT_mem hi)⟩
              have ic : ∀ i, i < c.funs.length → szT (c.funs.getD i ty0) < szT c ∧ okTy (c.funs.getD i ty0) := fun i hi => ⟨szT_fun c i hi, hc.fun (getT_mem hi)⟩
              have e1 := k1'.2.2.1
              have e2 := k2.2.2.1
              refine .inr (.inr ⟨k2.1, k1'.2.1, e1.trans e2, fun i hi => ?_, ?_⟩)
              · have xa := ia i (by omega)
                have xb := ib i (by omega)
                have xc := ic i (by omega)
                exact ih _ _ _ xc.2 xb.2 xa.2 (by omega) (k2.2.2.2.1 i (by omega)) (k1'.2.2.2.1 i hi)
              · have xa := ia (a.funs.length - 1) (by omega)
                have xb := ib (a.funs.length - 1) (by omega)
                have xc := ic (a.funs.length - 1) (by omega)
                refine ih _ _ _ xa.2 xb.2 xc.2 (by omega) k1'.2.2.2.2 ?_
                have := k2.2.2.2.2
                rwa [← e1] at this
  exact key _ a b c ha hb hc (Nat.le_refl _) h1 h2
end Go.Proofs.Ytgjkobkcmgliaaa
