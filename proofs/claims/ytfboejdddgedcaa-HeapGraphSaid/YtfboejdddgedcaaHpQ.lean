import Derived.Test.YtfboejdddgedcaaHpP
namespace Go.Proofs.Ytfboejdddgedcaa
/-- an object's head, as the program writes it -/
def headN (o : Ob) : Nat := o.f.length * 256 + o.kind.toNat
def hdK (l : List Ob) (k : Nat) : Nat := headN (l.getD k ob0)
/-- objects as they lie in a row of words: heads, fields -/
structure LayP (W : List Nat) (hd : Nat → Nat) (l : List Ob) : Prop where
  len : W.length = usedH l
  hd : ∀ k, k < l.length → W.getD (adrH l k - 1) 0 = hd k
  fl : ∀ k, k < l.length → ∀ j, j < (l.getD k ob0).f.length → W.getD (adrH l k + j) 0 = (l.getD k ob0).f.getD j 0
theorem adrH_le {l : List Ob} {i j : Nat} (h : i ≤ j) (hj : j ≤ l.length) : adrH l i ≤ adrH l j := by
  rcases Nat.lt_or_ge i j with h1 | h1
  · exact Nat.le_of_lt (adrH_lt h1 hj)
  · obtain rfl : i = j := by omega
    exact Nat.le_refl _
theorem adrH_in {l : List Ob} {k j : Nat} (hk : k < l.length) (hj : j ≤ (l.getD k ob0).f.length) : adrH l k + j ≤ usedH l := by
  have h1 := adrH_succ hk
  have h2 := adrH_le (l := l) (i := k + 1) (j := l.length) (by omega) (Nat.le_refl _)
  rw [adrH_end] at h2
  unfold szO at h1
  omega
theorem pos_inj {l : List Ob} {k m i j : Nat} (hk : k < l.length) (hm : m < l.length) (hi : i ≤ (l.getD k ob0).f.length) (hj : j ≤ (l.getD m ob0).f.length) (h : adrH l k + i = adrH l m + j) : k = m ∧ i = j := by
  have h1 := adrH_succ hk
  have h2 := adrH_succ hm
  unfold szO at h1 h2
  rcases Nat.lt_trichotomy k m with h3 | h3 | h3
  · have := adrH_le (l := l) (i := k + 1) (j := m) (by omega) (by omega); omega
  · subst h3; exact ⟨rfl, by omega⟩
  · have := adrH_le (l := l) (i := m + 1) (j := k) (by omega) (by omega); omega
theorem getD_set_eq {l : List Nat} {p x : Nat} (h : p < l.length) : (l.set p x).getD p 0 = x := by simp [List.getD_eq_getElem?_getD, h]
theorem getD_set_ne {l : List Nat} {p q x : Nat} (h : p ≠ q) : (l.set p x).getD q 0 = l.getD q 0 := by simp [List.getD_eq_getElem?_getD, h]
theorem LayP.sethd {W : List Nat} {hd : Nat → Nat} {l : List Ob} (h : LayP W hd l) {k : Nat} (hk : k < l.length) (x : Nat) : LayP (W.set (adrH l k - 1) x) (fun j => if j = k then x else hd j) l := by
  have hp := adrH_pos l k
  refine ⟨by rw [List.length_set, h.len], fun j hj => ?_, fun j hj i hi => ?_⟩
  · have hq := adrH_pos l j
    by_cases e : j = k
    · subst e
      rw [if_pos rfl, getD_set_eq]
      rw [h.len]
      have := adrH_in hk (Nat.zero_le _)
      omega
    · rw [if_neg e, getD_set_ne, h.hd j hj]
      intro e2
      exact e (pos_inj hj hk (Nat.zero_le _) (Nat.zero_le _) (by omega)).1
  · rw [getD_set_ne, h.fl j hj i hi]
    have hq := adrH_pos l j
    intro e2
    have := (pos_inj (i := 0) (j := i + 1) hk hj (Nat.zero_le _) (by omega) (by omega)).2
    omega
theorem adrH_app (l m : List Ob) {k : Nat} (hk : k ≤ l.length) : adrH (l ++ m) k = adrH l k := by
  unfold adrH
  rw [List.take_append_of_le_length hk]
theorem used_set {l : List Ob} {k : Nat} {o : Ob} (hk : k < l.length) (hs : szO o = szO (l.getD k ob0)) : (l.set k o).map szO = l.map szO := by
  rw [List.map_set, hs]
  apply List.ext_getElem (by simp)
  intro i h1 h2
  rw [List.getElem_set]
  split
  · rename_i e; subst e; simp [List.getD_eq_getElem?_getD, hk]
  · rfl
theorem usedH_set {l : List Ob} {k : Nat} {o : Ob} (hk : k < l.length) (hs : szO o = szO (l.getD k ob0)) : usedH (l.set k o) = usedH l := by unfold usedH; rw [used_set hk hs]
theorem adrH_map {l m : List Ob} (h : l.map szO = m.map szO) (j : Nat) : adrH l j = adrH m j := by
  unfold adrH usedH
  rw [List.map_take, List.map_take, h]
theorem adrH_set {l : List Ob} {k : Nat} {o : Ob} (hk : k < l.length) (hs : szO o = szO (l.getD k ob0)) (j : Nat) : adrH (l.set k o) j = adrH l j := adrH_map (used_set hk hs) j
theorem getO_set_eq {l : List Ob} {p : Nat} {x : Ob} (h : p < l.length) : (l.set p x).getD p ob0 = x := by simp [List.getD_eq_getElem?_getD, h]
theorem getO_set_ne {l : List Ob} {p q : Nat} {x : Ob} (h : p ≠ q) : (l.set p x).getD q ob0 = l.getD q ob0 := by simp [List.getD_eq_getElem?_getD, h]
/-- an object with a field set -/
def setF (o : Ob) (i x : Nat) : Ob := ⟨o.kind, o.f.set i x⟩
theorem setF_sz (o : Ob) (i x : Nat) : szO (setF o i x) = szO o := by simp [szO, setF]
theorem LayP.setf {W : List Nat} {hd : Nat → Nat} {l : List Ob} (h : LayP W hd l) {k i : Nat} (hk : k < l.length) (hi : i < (l.getD k ob0).f.length) (x : Nat) :
    LayP (W.set (adrH l k + i) x) hd (l.set k (setF (l.getD k ob0) i x)) := by
  have ha := fun j => adrH_set hk (setF_sz (l.getD k ob0) i x) j
  refine ⟨by rw [List.length_set, h.len, usedH_set hk (setF_sz _ i x)], fun j hj => ?_, fun j hj t ht => ?_⟩
  · rw [List.length_set] at hj
    rw [ha, getD_set_ne, h.hd j hj]
    have hq := adrH_pos l j
    intro e
    have := (pos_inj (i := 0) (j := i + 1) hj hk (Nat.zero_le _) (by omega) (by omega)).2
    omega
  · rw [List.length_set] at hj
    rw [ha]
    by_cases e : j = k
    · subst e
      rw [getO_set_eq hk] at ht ⊢
      have ht' : t < (l.getD j ob0).f.length := by simpa [setF] using ht
      show _ = ((l.getD j ob0).f.set i x).getD t 0
      by_cases e2 : t = i
      · subst e2
        rw [getD_set_eq, getD_set_eq hi]
        rw [h.len]
        have := adrH_in (j := t + 1) hk (by omega)
        omega
      · rw [getD_set_ne (by omega), getD_set_ne (by omega), h.fl j hj t ht']
    · rw [getO_set_ne (Ne.symm e)] at ht ⊢
      rw [getD_set_ne, h.fl j hj t ht]
      intro e2
      exact e (pos_inj (i := t) (j := i) hj hk (by omega) (by omega) (by omega)).1
theorem getD_app_lt {l m : List Nat} {p : Nat} (h : p < l.length) : (l ++ m).getD p 0 = l.getD p 0 := by simp [List.getD_eq_getElem?_getD, List.getElem?_append_left h]
theorem getD_app_ge {l m : List Nat} {p : Nat} (h : l.length ≤ p) : (l ++ m).getD p 0 = m.getD (p - l.length) 0 := by simp [List.getD_eq_getElem?_getD, List.getElem?_append_right h]
theorem getO_app_lt {l m : List Ob} {p : Nat} (h : p < l.length) : (l ++ m).getD p ob0 = l.getD p ob0 := by simp [List.getD_eq_getElem?_getD, List.getElem?_append_left h]
theorem getO_app_one {l : List Ob} {o : Ob} : (l ++ [o]).getD l.length ob0 = o := by simp [List.getD_eq_getElem?_getD]
theorem usedH_snoc (l : List Ob) (o : Ob) : usedH (l ++ [o]) = usedH l + (o.f.length + 1) := by rw [usedH_app]; simp [usedH, szO]
theorem LayP.app {W : List Nat} {hd : Nat → Nat} {l : List Ob} (h : LayP W hd l) (o : Ob) (x : Nat) : LayP (W ++ x :: o.f) (fun k => if k = l.length then x else hd k) (l ++ [o]) := by
  have hl := h.len
  refine ⟨by rw [List.length_append, List.length_cons, hl, usedH_snoc], fun j hj => ?_, fun j hj t ht => ?_⟩
  · rw [List.length_append, List.length_singleton] at hj
    have hq := adrH_pos l j
    rw [adrH_app l [o] (by omega)]
    by_cases e : j = l.length
    · subst e
      rw [if_pos rfl, adrH_end, getD_app_ge (by omega), hl]
      simp
    · have := adrH_in (l := l) (k := j) (j := 0) (by omega) (Nat.zero_le _)
      rw [if_neg e, getD_app_lt (by omega), h.hd j (by omega)]
  · rw [List.length_append, List.length_singleton] at hj
    rw [adrH_app l [o] (by omega)]
    by_cases e : j = l.length
    · subst e
      rw [getO_app_one] at ht ⊢
      rw [adrH_end, getD_app_ge (by omega), hl]
      rw [show 1 + usedH l + t - usedH l = t + 1 by omega]
      rfl
    · rw [getO_app_lt (by omega)] at ht ⊢
      have := adrH_in (l := l) (k := j) (j := t + 1) (by omega) (by omega)
      rw [getD_app_lt (by omega), h.fl j (by omega) t ht]
theorem LayP.nil (hd : Nat → Nat) : LayP [] hd [] := ⟨rfl, fun _ h => absurd h (Nat.not_lt_zero _), fun _ h => absurd h (Nat.not_lt_zero _)⟩
theorem LayP.hdc {W : List Nat} {hd hd' : Nat → Nat} {l : List Ob} (h : LayP W hd l) (he : ∀ k, k < l.length → hd k = hd' k) : LayP W hd' l := ⟨h.len, fun k hk => (h.hd k hk).trans (he k hk), h.fl⟩
theorem LayP.set {W : List Nat} {l : List Ob} (h : LayP W (hdK l) l) {k i : Nat} (hk : k < l.length) (hi : i < (l.getD k ob0).f.length) (x : Nat) :
    LayP (W.set (adrH l k + i) x) (hdK (l.set k (setF (l.getD k ob0) i x))) (l.set k (setF (l.getD k ob0) i x)) :=
  (h.setf hk hi x).hdc fun j hj => by
    rw [List.length_set] at hj
    unfold hdK
    by_cases e : j = k
    · subst e; rw [getO_set_eq hk]; simp [headN, setF]
    · rw [getO_set_ne (Ne.symm e)]
theorem LayP.add {W : List Nat} {l : List Ob} (h : LayP W (hdK l) l) (o : Ob) : LayP (W ++ headN o :: o.f) (hdK (l ++ [o])) (l ++ [o]) :=
  (h.app o (headN o)).hdc fun j hj => by
    rw [List.length_append, List.length_singleton] at hj
    unfold hdK
    by_cases e : j = l.length
    · subst e; rw [if_pos rfl, getO_app_one]
    · rw [if_neg e, getO_app_lt (by omega)]
/-! the marks of the places at which objects begin -/
def StartP (l : List Ob) (p : Nat) : Prop := ∃ k, k < l.length ∧ p + 1 = adrH l k
structure BitsP (S : List Nat) (l : List Ob) : Prop where
  at_ : ∀ p, p / 64 < S.length → ((S.getD (p / 64) 0).testBit (p % 64) = true ↔ StartP l p)
  all : ∀ k, k < l.length → (adrH l k - 1) / 64 < S.length
  lt : ∀ x ∈ S, x < 18446744073709551616
theorem startP_at {l : List Ob} {p : Nat} : StartP l p ↔ ∃ k, atH l (4 * (p + 1)) = some k := by
  constructor
  · rintro ⟨k, hk, e⟩
    exact ⟨k, atH_some.2 ⟨hk, by unfold wordH; omega⟩⟩
  · rintro ⟨k, e⟩
    obtain ⟨hk, e⟩ := atH_some.1 e
    unfold wordH at e
    exact ⟨k, hk, by omega⟩
theorem BitsP.some {S : List Nat} {l : List Ob} (h : BitsP S l) {p k : Nat} (he : atH l (4 * (p + 1)) = some k) : p / 64 < S.length ∧ (S.getD (p / 64) 0).testBit (p % 64) = true ∧ p + 1 = adrH l k ∧ k < l.length := by
  obtain ⟨hk, e⟩ := atH_some.1 he
  unfold wordH at e
  have h1 := h.all k hk
  rw [show adrH l k - 1 = p by omega] at h1
  exact ⟨h1, (h.at_ p h1).2 ⟨k, hk, by omega⟩, by omega, hk⟩
theorem BitsP.none {S : List Nat} {l : List Ob} (h : BitsP S l) {p : Nat} (he : atH l (4 * (p + 1)) = none) (hp : p / 64 < S.length) : (S.getD (p / 64) 0).testBit (p % 64) = false := by
  cases hb : (S.getD (p / 64) 0).testBit (p % 64) with
  | false => rfl
  | true =>
    obtain ⟨k, e⟩ := startP_at.1 ((h.at_ p hp).1 hb)
    rw [he] at e; cases e
theorem BitsP.zeros {S : List Nat} (h : ∀ x ∈ S, x = 0) : BitsP S [] := by
  refine ⟨fun p hp => ?_, fun k hk => absurd hk (Nat.not_lt_zero _), fun x hx => by rw [h x hx]; omega⟩
  have hm : S.getD (p / 64) 0 ∈ S := by simp [List.getD_eq_getElem?_getD, hp]
  rw [h _ hm]
  constructor
  · intro e; simp at e
  · rintro ⟨k, hk, _⟩; exact absurd hk (Nat.not_lt_zero _)
theorem BitsP.more {S : List Nat} {l : List Ob} (h : BitsP S l) : BitsP (S ++ [0]) l := by
  refine ⟨fun p hp => ?_, fun k hk => by rw [List.length_append]; have := h.all k hk; omega, fun x hx => ?_⟩
  · rw [List.length_append, List.length_singleton] at hp
    by_cases e : p / 64 < S.length
    · rw [getD_app_lt e]; exact h.at_ p e
    · rw [getD_app_ge (by omega), show p / 64 - S.length = 0 by omega]
      constructor
      · intro e; simp at e
      · rintro ⟨k, hk, e2⟩
        have := h.all k hk
        have hq := adrH_pos l k
        rw [show adrH l k - 1 = p by omega] at this
        omega
  · rcases List.mem_append.1 hx with h1 | h1
    · exact h.lt x h1
    · rw [List.mem_singleton] at h1; omega
theorem bit_lt (r : Nat) (h : r < 64) : 1 <<< r < 18446744073709551616 := by
  rw [Nat.one_shiftLeft, show (18446744073709551616 : Nat) = 2 ^ 64 from rfl]
  exact Nat.pow_lt_pow_right (by omega) h
/-- one more object: its mark is set -/
theorem BitsP.app {S : List Nat} {l : List Ob} (h : BitsP S l) (o : Ob) {u : Nat} (hu : u = usedH l) (hl : u / 64 < S.length) :
    BitsP (S.set (u / 64) (S.getD (u / 64) 0 ||| 1 <<< (u % 64))) (l ++ [o]) := by
  have hst : ∀ p, StartP (l ++ [o]) p ↔ StartP l p ∨ p = u := fun p => by
    unfold StartP
    constructor
    · rintro ⟨k, hk, e⟩
      rw [List.length_append, List.length_singleton] at hk
      rw [adrH_app l [o] (by omega)] at e
      by_cases e2 : k = l.length
      · subst e2; rw [adrH_end] at e; exact .inr (by omega)
      · exact .inl ⟨k, by omega, e⟩
    · rintro (⟨k, hk, e⟩ | e)
      · exact ⟨k, by rw [List.length_append]; omega, by rw [adrH_app l [o] (by omega)]; exact e⟩
      · exact ⟨l.length, by rw [List.length_append, List.length_singleton]; omega, by rw [adrH_app l [o] (Nat.le_refl _), adrH_end]; omega⟩
  refine ⟨fun p hp => ?_, fun k hk => ?_, fun x hx => ?_⟩
  · rw [List.length_set] at hp
    rw [hst]
    by_cases e : u / 64 = p / 64
    · rw [e, getD_set_eq hp, Nat.testBit_or, Bool.or_eq_true, h.at_ p hp, Nat.one_shiftLeft, Nat.testBit_two_pow, decide_eq_true_eq]
      constructor
      · rintro (h1 | h1)
        · exact .inl h1
        · exact .inr (by omega)
      · rintro (h1 | h1)
        · exact .inl h1
        · exact .inr (by omega)
    · rw [getD_set_ne e, h.at_ p hp]
      constructor
      · exact .inl
      · rintro (h1 | h1)
        · exact h1
        · exact absurd (by rw [h1]) e
  · rw [List.length_append, List.length_singleton] at hk
    rw [List.length_set, adrH_app l [o] (by omega)]
    by_cases e2 : k = l.length
    · subst e2; rw [adrH_end, show 1 + usedH l - 1 = u by omega]; exact hl
    · exact h.all k (by omega)
  · rcases List.mem_or_eq_of_mem_set hx with h1 | h1
    · exact h.lt x h1
    · rw [h1]
      have hm : S.getD (u / 64) 0 ∈ S := by simp [List.getD_eq_getElem?_getD, hl]
      have h2 := h.lt _ hm
      have h3 := bit_lt (u % 64) (by omega)
      rw [show (18446744073709551616 : Nat) = 2 ^ 64 from rfl] at h2 h3 ⊢
      exact Nat.or_lt_two_pow h2 h3
theorem BitsP.setF {S : List Nat} {l : List Ob} (h : BitsP S l) {k : Nat} {o : Ob} (hk : k < l.length) (hs : szO o = szO (l.getD k ob0)) : BitsP S (l.set k o) := by
  have ha := adrH_set hk hs
  refine ⟨fun p hp => ?_, fun j hj => ?_, h.lt⟩
  · rw [h.at_ p hp]
    unfold StartP
    simp only [List.length_set, ha]
  · rw [List.length_set] at hj; rw [ha]; exact h.all j hj
theorem atH_set {l : List Ob} {k : Nat} {o : Ob} (hk : k < l.length) (hs : szO o = szO (l.getD k ob0)) (w : Nat) : atH (l.set k o) w = atH l w := by
  cases he : atH l w with
  | none =>
    cases h2 : atH (l.set k o) w with
    | none => rfl
    | some j =>
      obtain ⟨hj, e⟩ := atH_some.1 h2
      rw [List.length_set] at hj
      unfold wordH at e
      rw [adrH_set hk hs] at e
      rw [(atH_some (k := j)).2 ⟨hj, e⟩] at he; cases he
  | some j =>
    obtain ⟨hj, e⟩ := atH_some.1 he
    exact atH_some.2 ⟨by rw [List.length_set]; exact hj, by unfold wordH; rw [adrH_set hk hs]; exact e⟩
end Go.Proofs.Ytfboejdddgedcaa
