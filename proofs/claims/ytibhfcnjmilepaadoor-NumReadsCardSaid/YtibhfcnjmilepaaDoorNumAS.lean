import Derived.Test.YtibhfcnjmilepaaDoorNumAR
namespace Go.Proofs.YtibhfcnjmilepaaDoor
open Go.RowKit

/-- a number of the program's, of so many digits at most -/
def NumIs (K : Nat) (w : World) (v : Value) (z : Int) : Prop := IntIs w v z ∧ (digB z.natAbs).length ≤ K
theorem NumIs.below {K : Nat} {w w' : World} {v : Value} {z : Int} (h : NumIs K w v z) (hb : Below w.heap.size w w') : NumIs K w' v z := ⟨h.1.below hb, h.2⟩
theorem NumIs.form {K : Nat} {w : World} {v : Value} {z : Int} (h : NumIs K w v z) : ∃ b s l c, v = .agg #[.bool b, .slice s l c] := by
  obtain ⟨⟨sv, rfl, hu⟩, _⟩ := h
  obtain ⟨s, c, rfl⟩ := hu.val
  exact ⟨_, s, _, c, rfl⟩
theorem dl_add (x y : Int) : (digB (x + y).natAbs).length ≤ (digB x.natAbs).length + (digB y.natAbs).length + 1 := by
  rw [digB_len]
  have h1 := digB_len.1 (Nat.le_refl (digB x.natAbs).length)
  have h2 := digB_len.1 (Nat.le_refl (digB y.natAbs).length)
  generalize (digB x.natAbs).length = p at *
  generalize (digB y.natAbs).length = q at *
  have h3 : bigB ^ p ≤ bigB ^ (p + q) := Nat.pow_le_pow_right (by rw [bigB_eq]; omega) (by omega)
  have h4 : bigB ^ q ≤ bigB ^ (p + q) := Nat.pow_le_pow_right (by rw [bigB_eq]; omega) (by omega)
  have h5 : bigB ^ (p + q) * 2 ≤ bigB ^ (p + q) * bigB := Nat.mul_le_mul_left _ (by rw [bigB_eq]; omega)
  rw [Nat.pow_succ]
  have := Int.natAbs_add_le x y
  omega
theorem dl_mul (x y : Int) : (digB (x * y).natAbs).length ≤ (digB x.natAbs).length + (digB y.natAbs).length := by
  rw [digB_len, Nat.pow_add, Int.natAbs_mul]
  exact Nat.mul_lt_mul'' (digB_len.1 (Nat.le_refl _)) (digB_len.1 (Nat.le_refl _))
theorem dl_le {x y : Nat} (h : x ≤ y) : (digB x).length ≤ (digB y).length := digB_len.2 (Nat.lt_of_le_of_lt h (digB_len.1 (Nat.le_refl _)))
theorem dl_quo (x y : Int) : (digB (x.tdiv y).natAbs).length ≤ (digB x.natAbs).length := dl_le (by rw [Int.natAbs_tdiv]; exact Nat.div_le_self _ _)
theorem dl_rem (x y : Int) : (digB (x.tmod y).natAbs).length ≤ (digB x.natAbs).length := dl_le (by rw [Int.natAbs_tmod]; exact Nat.mod_le _ _)
/-- a number handed back -/
def NumPost (K : Nat) (z : Int) (w : World) (e : Ending) (w' : World) : Prop := (∃ b s l c, e = .returned (.agg #[.bool b, .slice s l c]) ∧ NumIs K w' (.agg #[.bool b, .slice s l c]) z) ∧ Below w.heap.size w w'
theorem num_post {K : Nat} {z : Int} {w w' : World} {e : Ending} (h : IntPost z w e w') (hK : (digB z.natAbs).length ≤ K) : NumPost K z w e w' := by
  obtain ⟨⟨v, rfl, hi⟩, hb⟩ := h
  have hn : NumIs K w' v z := ⟨hi, hK⟩
  obtain ⟨b, s, l, c, rfl⟩ := hn.form
  exact ⟨⟨b, s, l, c, rfl, hn⟩, hb⟩
/-- a number, or an error, handed back -/
def ErrPost (K : Nat) (o : Option Int) (k : Int) (w : World) (e : Ending) (w' : World) : Prop := (∃ b s l c, e = .returned (.tuple #[.agg #[.bool b, .slice s l c], .int .i64 (errZ o k)]) ∧ NumIs K w' (.agg #[.bool b, .slice s l c]) (o.getD 0)) ∧ Below w.heap.size w w'
theorem err_post {K : Nat} {o : Option Int} {k : Int} {w w' : World} {e : Ending} (h : OptPost o k w e w') (hK : (digB (o.getD 0).natAbs).length ≤ K) : ErrPost K o k w e w' := by
  obtain ⟨⟨v, rfl, hi⟩, hb⟩ := h
  have hn : NumIs K w' v (o.getD 0) := ⟨hi, hK⟩
  obtain ⟨b, s, l, c, rfl⟩ := hn.form
  exact ⟨⟨b, s, l, c, rfl, hn⟩, hb⟩
theorem nadd {K L : Nat} {w : World} {a b : Value} {x y : Int} (ha : NumIs K w a x) (hb : NumIs L w b y) (hK : K ≤ 10000) (hL : L ≤ 10000) : Calls Tryd.prog 25 #[a, b] w (NumPost (K + L + 1) (x + y) w) :=
  (pAdd_any x y (Nat.le_trans ha.2 hK) (Nat.le_trans hb.2 hL) a b w ha.1 hb.1).mono fun _ _ h => num_post h (by have := dl_add x y; have := ha.2; have := hb.2; omega)
theorem nsub {K L : Nat} {w : World} {a b : Value} {x y : Int} (ha : NumIs K w a x) (hb : NumIs L w b y) (hK : K ≤ 10000) (hL : L ≤ 10000) : Calls Tryd.prog 27 #[a, b] w (NumPost (K + L + 1) (x - y) w) :=
  (pSub_any x y (Nat.le_trans ha.2 hK) (Nat.le_trans hb.2 hL) a b w ha.1 hb.1).mono fun _ _ h => num_post h (by have := dl_add x (-y); rw [Int.natAbs_neg] at this; have := ha.2; have := hb.2; rw [Int.sub_eq_add_neg]; omega)
theorem nmul {K L : Nat} {w : World} {a b : Value} {x y : Int} (ha : NumIs K w a x) (hb : NumIs L w b y) (hK : K ≤ 10000) (hL : L ≤ 10000) : Calls Tryd.prog 29 #[a, b] w (NumPost (K + L) (x * y) w) :=
  (pMul_any x y (Nat.le_trans ha.2 hK) (Nat.le_trans hb.2 hL) a b w ha.1 hb.1).mono fun _ _ h => num_post h (by have := dl_mul x y; have := ha.2; have := hb.2; omega)
def quoZ (x y : Int) : Option Int := if y = 0 then none else some (x.tdiv y)
def remZ (x y : Int) : Option Int := if y = 0 then none else some (x.tmod y)
theorem nquo {K L : Nat} {w : World} {a b : Value} {x y : Int} (ha : NumIs K w a x) (hb : NumIs L w b y) (hK : K ≤ 10000) (hL : L ≤ 10000) : Calls Tryd.prog 21 #[a, b] w (ErrPost K (quoZ x y) 8 w) := by
  unfold quoZ
  by_cases h : y = 0
  · rw [if_pos h]
    exact (pQuo_zero x y h a b w ha.1 hb.1).mono fun _ _ h => err_post h (by show (digB 0).length ≤ K; rw [digB_zero]; exact Nat.zero_le _)
  · rw [if_neg h]
    exact (pQuo_some x y (Nat.le_trans ha.2 hK) (Nat.le_trans hb.2 hL) h a b w ha.1 hb.1).mono fun _ _ h => err_post h (Nat.le_trans (dl_quo x y) ha.2)
theorem nrem {K L : Nat} {w : World} {a b : Value} {x y : Int} (ha : NumIs K w a x) (hb : NumIs L w b y) (hK : K ≤ 10000) (hL : L ≤ 10000) : Calls Tryd.prog 22 #[a, b] w (ErrPost K (remZ x y) 8 w) := by
  unfold remZ
  by_cases h : y = 0
  · rw [if_pos h]
    exact (pRem_zero x y h a b w ha.1 hb.1).mono fun _ _ h => err_post h (by show (digB 0).length ≤ K; rw [digB_zero]; exact Nat.zero_le _)
  · rw [if_neg h]
    exact (pRem_some x y (Nat.le_trans ha.2 hK) (Nat.le_trans hb.2 hL) h a b w ha.1 hb.1).mono fun _ _ h => err_post h (Nat.le_trans (dl_rem x y) ha.2)
theorem ncmp {K L : Nat} {w : World} {a b : Value} {x y : Int} (ha : NumIs K w a x) (hb : NumIs L w b y) (hK : K ≤ 10000) (hL : L ≤ 10000) : Calls Tryd.prog 31 #[a, b] w fun e w' => e = .returned (.int .i64 (cmpZ x y)) ∧ Below w.heap.size w w' :=
  pCmp_any x y (Nat.le_trans ha.2 hK) (Nat.le_trans hb.2 hL) a b w ha.1 hb.1
theorem ncmp_eq {K L : Nat} {w : World} {a b : Value} {x y : Int} (ha : NumIs K w a x) (hb : NumIs L w b y) (hK : K ≤ 10000) (hL : L ≤ 10000) (h : x = y) : Calls Tryd.prog 31 #[a, b] w fun e w' => e = .returned (.int .i64 0) ∧ Below w.heap.size w w' := by
  have := ncmp ha hb hK hL
  rw [show cmpZ x y = 0 by unfold cmpZ; rw [if_neg (by omega), if_pos h]] at this
  exact this
theorem ntext {K : Nat} {w : World} {a : Value} {x : Int} (ha : NumIs K w a x) (hK : K ≤ 10000) (ht : TabW w) : Calls Tryd.prog 11 #[a] w fun e w' => e = .returned (.string ⟨(textZ x).toArray⟩) ∧ Below w.heap.size w w' :=
  pText_any x (Nat.le_trans ha.2 hK) a w ha.1 ht
theorem nof (n : Int) (h0 : -9223372036854775808 ≤ n) (h1 : n ≤ 9223372036854775807) (w : World) : Calls Tryd.prog 17 #[.int .i64 n] w (NumPost 3 n w) :=
  (pOf_any n h0 h1 w).mono fun _ _ h => num_post h (digB_len.2 (by rw [bigB_eq]; omega))
theorem nread (s : ByteArray) (hs : s.size ≤ 8000) (w : World) : Calls Tryd.prog 9 #[.string s] w (ErrPost (s.size / 9 + 1) (readZ s.data.toList) 2 w) :=
  (pRead_any s hs w).mono fun _ _ h => err_post h (by
    have hz : (digB 0).length ≤ s.size / 9 + 1 := by rw [digB_zero]; exact Nat.zero_le _
    rw [pre_read, body_dec]
    by_cases hd : decD (Lib.trimPrefix s.data.toList [45]) = true
    · rw [if_pos hd, Option.getD_some, sg_abs, digB_len, ← pow_nine]
      have h1 := val_lt _ (decD_all hd)
      have h2 := trimPre_len s.data.toList
      rw [ba_len] at h2
      exact Nat.lt_of_lt_of_le h1 (Nat.pow_le_pow_right (by omega) (by omega))
    · rw [if_neg hd]; exact hz)
end Go.Proofs.YtibhfcnjmilepaaDoor
