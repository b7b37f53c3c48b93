import Derived.Test.YtgjkobkcmgliaaaTyO
namespace Go.Proofs.Ytgjkobkcmgliaaa
open Go.RowKit

/-- one step, whatever comes of the parts -/
def joinStep (J : Ty → Ty → Ty) (a b : Ty) : Ty := if a.all || b.all then tyAll else
    .mk false (flatJoin a.flat b.flat)
      (if a.pair = 0 then b.pair else if b.pair = 0 then a.pair else if a.pair = 1 ∨ b.pair = 1 then 1 else a.pair)
      (if a.pair = 0 then b.pairs else if b.pair = 0 then a.pairs else if a.pair = 1 ∨ b.pair = 1 then [J (carT a) (carT b), J (cdrT a) (cdrT b)] else [J (carT a) (carT b)])
      (if a.fn = 0 then b.fn else if b.fn = 0 then a.fn else if a.fn = b.fn ∧ samesT a.funs b.funs = true then a.fn else 2)
      (if a.fn = 0 then b.funs else if b.fn = 0 then a.funs else if a.fn = b.fn ∧ samesT a.funs b.funs = true then a.funs else [])
theorem joinF_succ (n : Nat) (a b : Ty) : joinF (n + 1) a b = joinStep (joinF n) a b := rfl
theorem joinStep_congr {J K : Ty → Ty → Ty} {a b : Ty} (h : a.all = false → b.all = false → a.pair ≠ 0 → b.pair ≠ 0 → J (carT a) (carT b) = K (carT a) (carT b) ∧ ((a.pair = 1 ∨ b.pair = 1) → J (cdrT a) (cdrT b) = K (cdrT a) (cdrT b))) : joinStep J a b = joinStep K a b := by
  unfold joinStep
  cases ha : a.all with
  | true => rfl
  | false =>
    cases hb : b.all with
    | true => rfl
    | false =>
      have hx : ¬ ((false || false) = true) := by simp
      rw [if_neg hx, if_neg hx]
      by_cases a0 : a.pair = 0
      · simp only [if_pos a0]
      · by_cases b0 : b.pair = 0
        · simp only [if_neg a0, if_pos b0]
        · have h1 := h ha hb a0 b0
          simp only [if_neg a0, if_neg b0]
          by_cases one : a.pair = 1 ∨ b.pair = 1
          · simp only [if_pos one]; rw [h1.1, h1.2 one]
          · simp only [if_neg one]; rw [h1.1]
theorem joinF_more : ∀ (n : Nat) (a b : Ty), okTy a → okTy b → szT a + szT b ≤ n → ∀ m, szT a + szT b ≤ m → joinF n a b = joinF m a b := by
  intro n
  induction n with
  | zero => intro a b _ _ h; have := szT_pos a; omega
  | succ n ih =>
    intro a b ha hb h m hm
    obtain ⟨m, rfl⟩ : ∃ k, m = k + 1 := ⟨m - 1, by have := szT_pos a; omega⟩
    rw [joinF_succ, joinF_succ]
    refine joinStep_congr fun hal hbl a0 b0 => ?_
    have ca := carS ha hal a0
    have cb := carS hb hbl b0
    have da := cdrS ha hal a0
    have db := cdrS hb hbl b0
    refine ⟨ih _ _ ca.2 cb.2 (by omega) m (by omega), fun one => ?_⟩
    have hlt : szT (cdrT a) + szT (cdrT b) < szT a + szT b := by
      rcases one with h1 | h1
      · have := da.2.1 h1; omega
      · have := db.2.1 h1; omega
    exact ih _ _ da.2.2 db.2.2 (by omega) m (by omega)
theorem joinF_eq {n : Nat} {a b : Ty} (ha : okTy a) (hb : okTy b) (h : szT a + szT b ≤ n) : joinF n a b = joinT a b := joinF_more n a b ha hb h _ (Nat.le_refl _)
theorem joinT_eq {a b : Ty} (ha : okTy a) (hb : okTy b) : joinT a b = joinStep joinT a b := by
  have hs := szT_pos a
  obtain ⟨n, hn⟩ : ∃ n, szT a + szT b = n + 1 := ⟨szT a + szT b - 1, by omega⟩
  show joinF (szT a + szT b) a b = _
  rw [hn, joinF_succ]
  refine joinStep_congr fun hal hbl a0 b0 => ?_
  have ca := carS ha hal a0
  have cb := carS hb hbl b0
  have da := cdrS ha hal a0
  have db := cdrS hb hbl b0
  refine ⟨joinF_eq ca.2 cb.2 (by omega), fun one => ?_⟩
  have hlt : szT (cdrT a) + szT (cdrT b) < szT a + szT b := by
    rcases one with h1 | h1
    · have := da.2.1 h1; omega
    · have := db.2.1 h1; omega
  exact joinF_eq da.2.2 db.2.2 (by omega)
/-- the tags of both, as numbers -/
theorem fj_nat : ∀ F, F < 64 → ∀ G, G < 64 → flatJoin (F : Nat) (G : Nat) = ((F ||| G : Nat) : Int) := by decide +kernel
theorem or_lt {F G : Nat} (hF : F < 64) (hG : G < 64) : F ||| G < 64 := Nat.or_lt_two_pow (n := 6) hF hG
theorem fj {f g : Int} (h0 : 0 ≤ f) (h1 : f ≤ 63) (h2 : 0 ≤ g) (h3 : g ≤ 63) : flatJoin f g = ((f.toNat ||| g.toNat : Nat) : Int) := by
  obtain ⟨F, rfl⟩ : ∃ F : Nat, f = F := ⟨f.toNat, by omega⟩
  obtain ⟨G, rfl⟩ : ∃ G : Nat, g = G := ⟨g.toNat, by omega⟩
  exact fj_nat F (by omega) G (by omega)
theorem bit_test (F j : Nat) : (F / 2 ^ j % 2 = 1) ↔ F.testBit j = true := by
  rw [Nat.testBit_eq_decide_div_mod_eq]; simp
theorem fj_range {f g : Int} (h0 : 0 ≤ f) (h1 : f ≤ 63) (h2 : 0 ≤ g) (h3 : g ≤ 63) : 0 ≤ flatJoin f g ∧ flatJoin f g ≤ 63 := by
  rw [fj h0 h1 h2 h3]
  have := @or_lt f.toNat g.toNat (by omega) (by omega)
  omega
theorem fj_left {f g : Int} (h0 : 0 ≤ f) (h1 : f ≤ 63) (h2 : 0 ≤ g) (h3 : g ≤ 63) : flatSub f (flatJoin f g) = true := by
  rw [flat_mem h0 (fj_range h0 h1 h2 h3).1, fj h0 h1 h2 h3, Int.toNat_natCast]
  intro j _ h
  rw [bit_test] at h ⊢
  rw [Nat.testBit_or, h, Bool.true_or]
theorem fj_right {f g : Int} (h0 : 0 ≤ f) (h1 : f ≤ 63) (h2 : 0 ≤ g) (h3 : g ≤ 63) : flatSub g (flatJoin f g) = true := by
  rw [flat_mem h2 (fj_range h0 h1 h2 h3).1, fj h0 h1 h2 h3, Int.toNat_natCast]
  intro j _ h
  rw [bit_test] at h ⊢
  rw [Nat.testBit_or, h, Bool.or_true]
theorem fj_comm {f g : Int} (h0 : 0 ≤ f) (h1 : f ≤ 63) (h2 : 0 ≤ g) (h3 : g ≤ 63) : flatJoin f g = flatJoin g f := by
  rw [fj h0 h1 h2 h3, fj h2 h3 h0 h1, Nat.or_comm]
theorem fj_self {f : Int} (h0 : 0 ≤ f) (h1 : f ≤ 63) : flatJoin f f = f := by
  rw [fj h0 h1 h0 h1, Nat.or_self]; omega
theorem fj_zero {f : Int} (h0 : 0 ≤ f) (h1 : f ≤ 63) : flatJoin f 0 = f := by
  rw [fj h0 h1 (Int.le_refl _) (by omega)]
  show ((f.toNat ||| 0 : Nat) : Int) = f
  rw [Nat.or_zero]; omega
/-- All, and nothing else -/
theorem all_eq {a : Ty} (ha : okTy a) (h : a.all = true) : a = tyAll := by
  have hh := headP ha
  have h1 := hh.2.2.2.2.2.2.1 h
  have h2 := hh.2.2.2.2.2.2.2.1
  rw [h1.2.1, if_neg (by omega), if_neg (by omega)] at h2
  have h3 := hh.2.2.2.2.2.2.2.2.1 (by omega)
  exact Ty.ext' h h1.1 h1.2.1 (List.length_eq_zero_iff.1 (by omega)) h1.2.2 (List.length_eq_zero_iff.1 h3)
theorem pair0 {a : Ty} (ha : okTy a) (h : a.pair = 0) : a.pairs = [] := by
  have h2 := (headP ha).2.2.2.2.2.2.2.1
  rw [h, if_neg (by omega), if_neg (by omega)] at h2
  exact List.length_eq_zero_iff.1 (by omega)
theorem fn_none {a : Ty} (ha : okTy a) (h : a.fn ≠ 1) : a.funs = [] := List.length_eq_zero_iff.1 ((headP ha).2.2.2.2.2.2.2.2.1 h)
theorem pair1 {a : Ty} (ha : okTy a) (hall : a.all = false) (h : a.pair = 1) : a.pairs = [carT a, cdrT a] := by
  have h2 := (headP ha).2.2.2.2.2.2.2.1
  rw [if_pos h] at h2
  have hl : a.pairs.length = 2 := by omega
  match hp : a.pairs, hl with
  | [x, y], _ =>
    unfold carT cdrT
    rw [hall, hp, if_neg (by simp), if_neg (by simp [h]), if_neg (by simp), if_neg (by simp [h]), if_pos (by simp [h])]
    rfl
theorem pair2 {a : Ty} (ha : okTy a) (hall : a.all = false) (h : a.pair = 2) : a.pairs = [carT a] := by
  have h2 := (headP ha).2.2.2.2.2.2.2.1
  rw [if_neg (by omega), if_pos h] at h2
  have hl : a.pairs.length = 1 := by omega
  match hp : a.pairs, hl with
  | [x], _ =>
    unfold carT
    rw [hall, hp, if_neg (by simp), if_neg (by simp [h])]
    rfl
theorem okTy_mk' {f p g : Int} {ps fs : List Ty} (h : headOK (.mk false f p ps g fs) = true) (hp : ∀ x ∈ ps, okTy x) (hf : ∀ x ∈ fs, okTy x) : okTy (.mk false f p ps g fs) := okTy.mk h hp hf
/-- the join's fields, where it is not All -/
theorem join_all {a b : Ty} (ha : okTy a) (hb : okTy b) (h : a.all = true ∨ b.all = true) : joinT a b = tyAll := by
  rw [joinT_eq ha hb]; unfold joinStep
  rw [if_pos (by rcases h with h | h <;> simp [h])]
theorem join_form {a b : Ty} (ha : okTy a) (hb : okTy b) (h1 : a.all = false) (h2 : b.all = false) : (joinT a b).all = false ∧ (joinT a b).flat = flatJoin a.flat b.flat ∧
    (joinT a b).pair = (if a.pair = 0 then b.pair else if b.pair = 0 then a.pair else if a.pair = 1 ∨ b.pair = 1 then 1 else a.pair) ∧
    (joinT a b).pairs = (if a.pair = 0 then b.pairs else if b.pair = 0 then a.pairs else if a.pair = 1 ∨ b.pair = 1 then [joinT (carT a) (carT b), joinT (cdrT a) (cdrT b)] else [joinT (carT a) (carT b)]) ∧
    (joinT a b).fn = (if a.fn = 0 then b.fn else if b.fn = 0 then a.fn else if a.fn = b.fn ∧ samesT a.funs b.funs = true then a.fn else 2) ∧
    (joinT a b).funs = (if a.fn = 0 then b.funs else if b.fn = 0 then a.funs else if a.fn = b.fn ∧ samesT a.funs b.funs = true then a.funs else []) := by
  rw [joinT_eq ha hb]; unfold joinStep
  rw [h1, h2]
  exact ⟨rfl, rfl, rfl, rfl, rfl, rfl⟩
theorem pair_cases {a : Ty} (ha : okTy a) : a.pair = 0 ∨ a.pair = 1 ∨ a.pair = 2 := by have := headP ha; omega
theorem fn_cases {a : Ty} (ha : okTy a) : a.fn = 0 ∨ a.fn = 1 ∨ a.fn = 2 := by have := headP ha; omega
/-- the join of types that may be is one -/
theorem join_ok (a b : Ty) (ha : okTy a) (hb : okTy b) : okTy (joinT a b) := by
  have key : ∀ n a b, okTy a → okTy b → szT a + szT b ≤ n → okTy (joinT a b) := by
    intro n
    induction n with
    | zero => intro a b _ _ h; have := szT_pos a; omega
    | succ n ih =>
      intro a b ha hb hn
      cases h1 : a.all with
      | true => rw [join_all ha hb (.inl h1)]; exact okAll
      | false =>
      cases h2 : b.all with
      | true => rw [join_all ha hb (.inr h2)]; exact okAll
      | false =>
      obtain ⟨j1, j2, j3, j4, j5, j6⟩ := join_form ha hb h1 h2
      have pa := headP ha
      have pb := headP hb
      have hfl := fj_range pa.1 pa.2.1 pb.1 pb.2.1
      have hpairs : ((joinT a b).pairs.length : Int) = (if (joinT a b).pair = 1 then 2 else if (joinT a b).pair = 2 then 1 else 0) ∧ 0 ≤ (joinT a b).pair ∧ (joinT a b).pair ≤ 2 ∧ ∀ x ∈ (joinT a b).pairs, okTy x := by
        rw [j3, j4]
        by_cases a0 : a.pair = 0
        · simp only [if_pos a0]
          exact ⟨pb.2.2.2.2.2.2.2.1, by omega, by omega, fun x hx => hb.pair hx⟩
        · by_cases b0 : b.pair = 0
          · simp only [if_neg a0, if_pos b0]
            exact ⟨pa.2.2.2.2.2.2.2.1, by omega, by omega, fun x hx => ha.pair hx⟩
          · have ca := carS ha h1 a0
            have cb := carS hb h2 b0
            have da := cdrS ha h1 a0
            have db := cdrS hb h2 b0
            simp only [if_neg a0, if_neg b0]
            by_cases one : a.pair = 1 ∨ b.pair = 1
            · have hlt : szT (cdrT a) + szT (cdrT b) < szT a + szT b := by
                rcases one with h1 | h1
                · have := da.2.1 h1; omega
                · have := db.2.1 h1; omega
              simp only [if_pos one]
              refine ⟨rfl, by omega, by omega, fun x hx => ?_⟩
              rcases (show x = _ ∨ x = _ by simpa using hx) with rfl | rfl
              · exact ih _ _ ca.2 cb.2 (by omega)
              · exact ih _ _ da.2.2 db.2.2 (by omega)
            · have e2 : a.pair = 2 := by omega
              simp only [if_neg one]
              refine ⟨by rw [e2]; rfl, by omega, by omega, fun x hx => ?_⟩
              obtain rfl : x = _ := by simpa using hx
              exact ih _ _ ca.2 cb.2 (by omega)
      have hfuns : 0 ≤ (joinT a b).fn ∧ (joinT a b).fn ≤ 2 ∧ ((joinT a b).fn ≠ 1 → (joinT a b).funs.length = 0) ∧ ((joinT a b).fn = 1 → 1 ≤ (joinT a b).funs.length ∧ (joinT a b).funs.length ≤ 9) ∧ ∀ x ∈ (joinT a b).funs, okTy x := by
        rw [j5, j6]
        by_cases a0 : a.fn = 0
        · simp only [if_pos a0]
          exact ⟨by omega, by omega, pb.2.2.2.2.2.2.2.2.1, pb.2.2.2.2.2.2.2.2.2, fun x hx => hb.fun hx⟩
        · by_cases b0 : b.fn = 0
          · simp only [if_neg a0, if_pos b0]
            exact ⟨by omega, by omega, pa.2.2.2.2.2.2.2.2.1, pa.2.2.2.2.2.2.2.2.2, fun x hx => ha.fun hx⟩
          · simp only [if_neg a0, if_neg b0]
            by_cases same : a.fn = b.fn ∧ samesT a.funs b.funs = true
            · simp only [if_pos same]
              exact ⟨by omega, by omega, pa.2.2.2.2.2.2.2.2.1, pa.2.2.2.2.2.2.2.2.2, fun x hx => ha.fun hx⟩
            · simp only [if_neg same]
              exact ⟨by omega, by omega, fun _ => rfl, fun h => by omega, fun x hx => by cases hx⟩
      refine okTy.mk ?_ hpairs.2.2.2 hfuns.2.2.2.2
      refine decide_eq_true ⟨by rw [j2]; exact hfl.1, by rw [j2]; exact hfl.2, hpairs.2.1, hpairs.2.2.1, hfuns.1, hfuns.2.1, (fun h => by rw [j1] at h; cases h), hpairs.1, hfuns.2.2.1, hfuns.2.2.2.1⟩
  exact key _ a b ha hb (Nat.le_refl _)
/-- what a type with just its pairs says of the car and the cdr -/
theorem car_of {a b : Ty} (h1 : a.all = b.all) (h2 : a.pair = b.pair) (h3 : a.pairs = b.pairs) : carT a = carT b := by unfold carT; rw [h1, h2, h3]
theorem cdr_of {a b : Ty} (h1 : a.all = b.all) (h2 : a.pair = b.pair) (h3 : a.pairs = b.pairs) : cdrT a = cdrT b := by unfold cdrT; rw [h1, h2, h3]
/-- the car and the cdr of a join of pairs -/
theorem join_car {a b : Ty} (ha : okTy a) (hb : okTy b) (h1 : a.all = false) (h2 : b.all = false) (a0 : a.pair ≠ 0) (b0 : b.pair ≠ 0) : carT (joinT a b) = joinT (carT a) (carT b) := by
  obtain ⟨j1, _, j3, j4, _⟩ := join_form ha hb h1 h2
  unfold carT
  rw [j1, j3, j4]
  simp only [if_neg a0, if_neg b0]
  by_cases one : a.pair = 1 ∨ b.pair = 1
  · simp [if_pos one, carT]
  · simp [if_neg one, a0, carT]
theorem join_cdr {a b : Ty} (ha : okTy a) (hb : okTy b) (h1 : a.all = false) (h2 : b.all = false) (a0 : a.pair ≠ 0) (b0 : b.pair ≠ 0) (one : a.pair = 1 ∨ b.pair = 1) : (joinT a b).pair = 1 ∧ cdrT (joinT a b) = joinT (cdrT a) (cdrT b) := by
  obtain ⟨j1, _, j3, j4, _⟩ := join_form ha hb h1 h2
  have e : (joinT a b).pair = 1 := by rw [j3, if_neg a0, if_neg b0, if_pos one]
  refine ⟨e, ?_⟩
  unfold cdrT
  rw [j1, e, j4]
  simp [if_neg a0, if_neg b0, if_pos one, cdrT]
def FunRel (a j : Ty) : Prop := a.fn = 0 ∨ j.fn = 2 ∨ (j.fn ≠ 0 ∧ a.fn ≠ 2 ∧ a.funs.length = j.funs.length ∧ (∀ i, i < a.funs.length - 1 → subT (j.funs.getD i ty0) (a.funs.getD i ty0) = true) ∧ subT (a.funs.getD (a.funs.length - 1) ty0) (j.funs.getD (a.funs.length - 1) ty0) = true)
theorem funs_same {a j : Ty} (ha : okTy a) (h1 : j.fn = a.fn) (h2 : j.funs = a.funs) : FunRel a j := by
  rcases fn_cases ha with h | h | h
  · exact .inl h
  · have hl := fun_one ha (by omega) (by omega)
    unfold FunRel
    rw [h1, h2]
    exact .inr (.inr ⟨by omega, by omega, rfl, fun i hi => sub_refl _ (ha.fun (getT_mem (by omega))), sub_refl _ (ha.fun (getT_mem (by omega)))⟩)
  · exact .inr (.inl (by rw [h1]; exact h))
theorem pairs_same {a j : Ty} (ha : okTy a) (hall : a.all = false) (h0 : j.all = a.all) (h1 : j.pair = a.pair) (h2 : j.pairs = a.pairs) : a.pair = 0 ∨ (j.pair ≠ 0 ∧ subT (carT a) (carT j) = true ∧ ((a.pair = 1 ∨ j.pair = 1) → subT (cdrT a) (cdrT j) = true)) := by
  by_cases a0 : a.pair = 0
  · exact .inl a0
  · rw [car_of h0 h1 h2, cdr_of h0 h1 h2, h1]
    exact .inr ⟨a0, sub_refl _ (carS ha hall a0).2, fun _ => sub_refl _ (cdrS ha hall a0).2.2⟩
/-- both are of their join -/
theorem sub_join (a b : Ty) (ha : okTy a) (hb : okTy b) : subT a (joinT a b) = true ∧ subT b (joinT a b) = true := by
  have key : ∀ n a b, okTy a → okTy b → szT a + szT b ≤ n → subT a (joinT a b) = true ∧ subT b (joinT a b) = true := by
    intro n
    induction n with
    | zero => intro a b _ _ h; have := szT_pos a; omega
    | succ n ih =>
      intro a b ha hb hn
      cases h1 : a.all with
      | true => rw [join_all ha hb (.inl h1)]; exact ⟨sub_top ha, sub_top hb⟩
      | false =>
      cases h2 : b.all with
      | true => rw [join_all ha hb (.inr h2)]; exact ⟨sub_top ha, sub_top hb⟩
      | false =>
      obtain ⟨j1, j2, j3, j4, j5, j6⟩ := join_form ha hb h1 h2
      have oj := join_ok a b ha hb
      have pa := headP ha
      have pb := headP hb
      have hpairs : (a.pair = 0 ∨ ((joinT a b).pair ≠ 0 ∧ subT (carT a) (carT (joinT a b)) = true ∧ ((a.pair = 1 ∨ (joinT a b).pair = 1) → subT (cdrT a) (cdrT (joinT a b)) = true))) ∧
          (b.pair = 0 ∨ ((joinT a b).pair ≠ 0 ∧ subT (carT b) (carT (joinT a b)) = true ∧ ((b.pair = 1 ∨ (joinT a b).pair = 1) → subT (cdrT b) (cdrT (joinT a b)) = true))) := by
        by_cases a0 : a.pair = 0
        · exact ⟨.inl a0, pairs_same hb h2 (by rw [j1, h2]) (by rw [j3, if_pos a0]) (by rw [j4, if_pos a0])⟩
        · by_cases b0 : b.pair = 0
          · exact ⟨pairs_same ha h1 (by rw [j1, h1]) (by rw [j3, if_neg a0, if_pos b0]) (by rw [j4, if_neg a0, if_pos b0]), .inl b0⟩
          · have ca := carS ha h1 a0
            have cb := carS hb h2 b0
            have da := cdrS ha h1 a0
            have db := cdrS hb h2 b0
            have i1 := ih _ _ ca.2 cb.2 (by omega)
            have jc := join_car ha hb h1 h2 a0 b0
            have jp : (joinT a b).pair ≠ 0 := by
              rw [j3, if_neg a0, if_neg b0]
              split <;> omega
            have hd : (a.pair = 1 ∨ b.pair = 1) → subT (cdrT a) (cdrT (joinT a b)) = true ∧ subT (cdrT b) (cdrT (joinT a b)) = true := by
              intro one
              have hlt : szT (cdrT a) + szT (cdrT b) < szT a + szT b := by
                rcases one with h1 | h1
                · have := da.2.1 h1; omega
                · have := db.2.1 h1; omega
              rw [(join_cdr ha hb h1 h2 a0 b0 one).2]
              exact ih _ _ da.2.2 db.2.2 (by omega)
            have hj1 : (joinT a b).pair = 1 → a.pair = 1 ∨ b.pair = 1 := by
              intro h
              rw [j3, if_neg a0, if_neg b0] at h
              by_cases one : a.pair = 1 ∨ b.pair = 1
              · exact one
              · rw [if_neg one] at h; exact .inl h
            refine ⟨.inr ⟨jp, by rw [jc]; exact i1.1, fun h => (hd ?_).1⟩, .inr ⟨jp, by rw [jc]; exact i1.2, fun h => (hd ?_).2⟩⟩
            · rcases h with h | h
              · exact .inl h
              · exact hj1 h
            · rcases h with h | h
              · exact .inr h
              · exact hj1 h
      have hfuns : FunRel a (joinT a b) ∧ FunRel b (joinT a b) := by
        by_cases a0 : a.fn = 0
        · exact ⟨.inl a0, funs_same hb (by rw [j5, if_pos a0]) (by rw [j6, if_pos a0])⟩
        · by_cases b0 : b.fn = 0
          · exact ⟨funs_same ha (by rw [j5, if_neg a0, if_pos b0]) (by rw [j6, if_neg a0, if_pos b0]), .inl b0⟩
          · by_cases same : a.fn = b.fn ∧ samesT a.funs b.funs = true
            · have e1 : (joinT a b).fn = a.fn := by rw [j5, if_neg a0, if_neg b0, if_pos same]
              have e2 : (joinT a b).funs = a.funs := by rw [j6, if_neg a0, if_neg b0, if_pos same]
              exact ⟨funs_same ha e1 e2, funs_same hb (e1.trans same.1) (e2.trans ((samesT_eq _ _).1 same.2))⟩
            · have e1 : (joinT a b).fn = 2 := by rw [j5, if_neg a0, if_neg b0, if_neg same]
              exact ⟨.inr (.inl e1), .inr (.inl e1)⟩
      rw [subT_iff ha oj, subT_iff hb oj]
      exact ⟨.inr ⟨h1, by rw [j2]; exact fj_left pa.1 pa.2.1 pb.1 pb.2.1, hpairs.1, hfuns.1⟩, .inr ⟨h2, by rw [j2]; exact fj_right pa.1 pa.2.1 pb.1 pb.2.1, hpairs.2, hfuns.2⟩⟩
  exact key _ a b ha hb (Nat.le_refl _)
/-- joined the other way round, it is of the same -/
theorem join_swap (a b : Ty) (ha : okTy a) (hb : okTy b) : subT (joinT a b) (joinT b a) = true := by
  have key : ∀ n a b, okTy a → okTy b → szT a + szT b ≤ n → subT (joinT a b) (joinT b a) = true := by
    intro n
    induction n with
    | zero => intro a b _ _ h; have := szT_pos a; omega
    | succ n ih =>
      intro a b ha hb hn
      cases h1 : a.all with
      | true => rw [join_all ha hb (.inl h1), join_all hb ha (.inr h1)]; exact sub_top okAll
      | false =>
      cases h2 : b.all with
      | true => rw [join_all ha hb (.inr h2), join_all hb ha (.inl h2)]; exact sub_top okAll
      | false =>
      obtain ⟨j1, j2, j3, j4, j5, j6⟩ := join_form ha hb h1 h2
      obtain ⟨k1, k2, k3, k4, k5, k6⟩ := join_form hb ha h2 h1
      have oj := join_ok a b ha hb
      have ok := join_ok b a hb ha
      have pa := headP ha
      have pb := headP hb
      rw [subT_iff oj ok]
      refine .inr ⟨j1, by rw [j2, k2, fj_comm pb.1 pb.2.1 pa.1 pa.2.1]; exact flat_refl (fj_range pa.1 pa.2.1 pb.1 pb.2.1).1, ?_, ?_⟩
      · by_cases a0 : a.pair = 0
        · by_cases b0 : b.pair = 0
          · left; rw [j3, if_pos a0]; exact b0
          · exact pairs_same oj j1 (by rw [j1, k1]) (by rw [k3, j3, if_neg b0, if_pos a0, if_pos a0]) (by rw [k4, j4, if_neg b0, if_pos a0, if_pos a0])
        · by_cases b0 : b.pair = 0
          · exact pairs_same oj j1 (by rw [j1, k1]) (by rw [k3, j3, if_pos b0, if_neg a0, if_pos b0]) (by rw [k4, j4, if_pos b0, if_neg a0, if_pos b0])
          · have ca := carS ha h1 a0
            have cb := carS hb h2 b0
            have da := cdrS ha h1 a0
            have db := cdrS hb h2 b0
            have jp : (joinT b a).pair ≠ 0 := by
              rw [k3, if_neg b0, if_neg a0]
              split <;> omega
            have hj1 : ((joinT a b).pair = 1 ∨ (joinT b a).pair = 1) → a.pair = 1 ∨ b.pair = 1 := by
              intro h
              rw [j3, if_neg a0, if_neg b0, k3, if_neg b0, if_neg a0] at h
              by_cases one : a.pair = 1 ∨ b.pair = 1
              · exact one
              · rw [if_neg one, if_neg (fun h => one h.symm)] at h; exact h
            refine .inr ⟨jp, by rw [join_car ha hb h1 h2 a0 b0, join_car hb ha h2 h1 b0 a0]; exact ih _ _ ca.2 cb.2 (by omega), fun h => ?_⟩
            have one := hj1 h
            have hlt : szT (cdrT a) + szT (cdrT b) < szT a + szT b := by
              rcases one with h1 | h1
              · have := da.2.1 h1; omega
              · have := db.2.1 h1; omega
            rw [(join_cdr ha hb h1 h2 a0 b0 one).2, (join_cdr hb ha h2 h1 b0 a0 one.symm).2]
            exact ih _ _ da.2.2 db.2.2 (by omega)
      · have hsame : ¬ (a.fn ≠ 0 ∧ b.fn ≠ 0 ∧ ¬ (a.fn = b.fn ∧ samesT a.funs b.funs = true)) → (joinT b a).fn = (joinT a b).fn ∧ (joinT b a).funs = (joinT a b).funs := by
          intro hno
          rw [j5, j6, k5, k6]
          by_cases a0 : a.fn = 0
          · by_cases b0 : b.fn = 0
            · rw [if_pos a0, if_pos b0, if_pos a0, if_pos b0, a0, b0, fn_none ha (by omega), fn_none hb (by omega)]; exact ⟨rfl, rfl⟩
            · simp [a0, b0]
          · by_cases b0 : b.fn = 0
            · simp [a0, b0]
            · by_cases same : a.fn = b.fn ∧ samesT a.funs b.funs = true
              · have e := (samesT_eq _ _).1 same.2
                have same' : b.fn = a.fn ∧ samesT b.funs a.funs = true := ⟨same.1.symm, (samesT_eq _ _).2 e.symm⟩
                simp only [if_neg a0, if_neg b0, if_pos same, if_pos same']
                exact ⟨same.1.symm, e.symm⟩
              · exact absurd ⟨a0, b0, same⟩ hno
        by_cases hx : a.fn ≠ 0 ∧ b.fn ≠ 0 ∧ ¬ (a.fn = b.fn ∧ samesT a.funs b.funs = true)
        · have same' : ¬ (b.fn = a.fn ∧ samesT b.funs a.funs = true) := fun h => hx.2.2 ⟨h.1.symm, (samesT_eq _ _).2 ((samesT_eq _ _).1 h.2).symm⟩
          exact .inr (.inl (by rw [k5, if_neg hx.2.1, if_neg hx.1, if_neg same']))
        · have := hsame hx
          exact funs_same oj this.1 this.2
  exact key _ a b ha hb (Nat.le_refl _)
/-- joined with itself, and with nothing -/
theorem join_self (a : Ty) (ha : okTy a) : joinT a a = a := by
  have key : ∀ n a, okTy a → szT a ≤ n → joinT a a = a := by
    intro n
    induction n with
    | zero => intro a _ h; have := szT_pos a; omega
    | succ n ih =>
      intro a ha hn
      cases h1 : a.all with
      | true => rw [join_all ha ha (.inl h1)]; exact (all_eq ha h1).symm
      | false =>
      obtain ⟨j1, j2, j3, j4, j5, j6⟩ := join_form ha ha h1 h1
      have pa := headP ha
      have same : a.fn = a.fn ∧ samesT a.funs a.funs = true := ⟨rfl, (samesT_eq _ _).2 rfl⟩
      refine Ty.ext' (j1.trans h1.symm) (j2.trans (fj_self pa.1 pa.2.1)) ?_ ?_ ?_ ?_
      · rw [j3]
        by_cases h : a.pair = 0
        · rw [if_pos h]
        · rw [if_neg h, if_neg h]
          split <;> omega
      · rw [j4]
        rcases pair_cases ha with h | h | h
        · rw [if_pos h]
        · have c := carS ha h1 (by omega)
          have d := cdrS ha h1 (by omega)
          rw [if_neg (by omega), if_neg (by omega), if_pos (.inl h), ih _ c.2 (by omega), ih _ d.2.2 (by have := d.2.1 h; omega), ← pair1 ha h1 h]
        · have c := carS ha h1 (by omega)
          rw [if_neg (by omega), if_neg (by omega), if_neg (by omega), ih _ c.2 (by omega), ← pair2 ha h1 h]
      · rw [j5]
        by_cases h : a.fn = 0
        · rw [if_pos h]
        · rw [if_neg h, if_neg h, if_pos same]
      · rw [j6]
        by_cases h : a.fn = 0
        · rw [if_pos h]
        · rw [if_neg h, if_neg h, if_pos same]
  exact key _ a ha (Nat.le_refl _)
theorem join_none (a : Ty) (ha : okTy a) : joinT a ty0 = a := by
  cases h1 : a.all with
  | true => rw [join_all ha ok0 (.inl h1)]; exact (all_eq ha h1).symm
  | false =>
  obtain ⟨j1, j2, j3, j4, j5, j6⟩ := join_form ha ok0 h1 rfl
  have pa := headP ha
  refine Ty.ext' (j1.trans h1.symm) (j2.trans (fj_zero pa.1 pa.2.1)) ?_ ?_ ?_ ?_
  · rw [j3]
    by_cases h : a.pair = 0
    · rw [if_pos h]; exact h.symm
    · rw [if_neg h]; rfl
  · rw [j4]
    by_cases h : a.pair = 0
    · rw [if_pos h, pair0 ha h]; rfl
    · rw [if_neg h]; rfl
  · rw [j5]
    by_cases h : a.fn = 0
    · rw [if_pos h]; exact h.symm
    · rw [if_neg h]; rfl
  · rw [j6]
    by_cases h : a.fn = 0
    · rw [if_pos h, fn_none ha (by omega)]; rfl
    · rw [if_neg h]; rfl
end Go.Proofs.Ytgjkobkcmgliaaa
