import Derived.Test.YtgjkobkcmgliaaaTyL2
namespace Go.Proofs.Ytgjkobkcmgliaaa
open Go.RowKit

theorem andNot63 {f : Int} (h0 : -9223372036854775808 ≤ f) (h1 : f ≤ 9223372036854775807) : (bits .andNot .i64 f 63 == 0) = decide (0 ≤ f ∧ f ≤ 63) := by
  have hb : bits .andNot .i64 f 63 = IntKind.i64.wrap ((BitVec.ofInt 64 f &&& ~~~ (BitVec.ofInt 64 63)).toNat : Int) := rfl
  have hx : (BitVec.ofInt 64 f).toNat = (f % ((2 ^ 64 : Nat) : Int)).toNat := BitVec.toNat_ofInt ..
  have hm : (BitVec.ofInt 64 63).toNat = 2 ^ 6 - 1 := by decide
  rw [hb]
  generalize BitVec.ofInt 64 f = x at hx ⊢
  generalize BitVec.ofInt 64 63 = m at hm ⊢
  have hw : IntKind.i64.wrap ((x &&& ~~~ m).toNat : Int) = 0 ↔ x &&& ~~~ m = 0#64 := by
    have hlt := (x &&& ~~~ m).isLt
    rw [IntKind.wrap_i64, ← BitVec.toNat_inj]
    show _ ↔ _ = 0
    omega
  have hz : x &&& ~~~ m = 0#64 ↔ x &&& m = x := by
    constructor
    · intro h
      apply BitVec.eq_of_getLsbD_eq
      intro i _
      have := congrArg (fun b => b.getLsbD i) h
      simp only [BitVec.getLsbD_and, BitVec.getLsbD_not, BitVec.getLsbD_zero] at this ⊢
      cases hxi : x.getLsbD i <;> cases hmi : m.getLsbD i <;> simp_all
    · intro h
      rw [← h]
      apply BitVec.eq_of_getLsbD_eq
      intro i _
      simp only [BitVec.getLsbD_and, BitVec.getLsbD_not, BitVec.getLsbD_zero]
      cases x.getLsbD i <;> cases m.getLsbD i <;> simp
  have hy : x &&& m = x ↔ x.toNat % 64 = x.toNat := by
    rw [← BitVec.toNat_inj, BitVec.toNat_and, hm, Nat.and_two_pow_sub_one_eq_mod]
  have hq : (IntKind.i64.wrap ((x &&& ~~~ m).toNat : Int) = 0) ↔ (0 ≤ f ∧ f ≤ 63) := by
    rw [hw, hz, hy, hx]
    omega
  by_cases h : 0 ≤ f ∧ f ≤ 63
  · rw [decide_eq_true h, hq.2 h]; rfl
  · rw [decide_eq_false h]; exact beq_false_of_ne fun e => h (hq.1 e)
def fieldsR (a : Bool) (f p : Int) (np : Nat) (g : Int) (nf : Nat) : Bool :=
  if a then f == 0 && (p == 0 && np == 0) && (g == 0 && nf == 0) else decide (0 ≤ f ∧ f ≤ 63) && ((p == 0 && np == 0) || hasPr p np) && ((g == 0 && nf == 0) || (hasFr g nf && decide (nf ≤ 9)))
theorem fieldsR_head (t : Ty) : fieldsR t.all t.flat t.pair t.pairs.length t.fn t.funs.length = headOK t := by
  have hk : headOK t = true ↔ (0 ≤ t.flat ∧ t.flat ≤ 63 ∧ 0 ≤ t.pair ∧ t.pair ≤ 2 ∧ 0 ≤ t.fn ∧ t.fn ≤ 2 ∧ (t.all = true → t.flat = 0 ∧ t.pair = 0 ∧ t.fn = 0) ∧
    (t.pairs.length : Int) = (if t.pair = 1 then 2 else if t.pair = 2 then 1 else 0) ∧ (t.fn ≠ 1 → t.funs.length = 0) ∧ (t.fn = 1 → 1 ≤ t.funs.length ∧ t.funs.length ≤ 9)) := by unfold headOK; exact decide_eq_true_iff
  rw [Bool.eq_iff_iff, hk]
  unfold fieldsR hasPr hasFr
  generalize t.pairs.length = n
  generalize t.funs.length = m
  generalize t.all = a
  generalize t.flat = f
  generalize t.pair = p
  generalize t.fn = g
  cases a with
  | true =>
    simp only [if_true, Bool.and_eq_true, beq_iff_eq, true_implies]
    constructor
    · rintro ⟨⟨rfl, rfl, rfl⟩, rfl, rfl⟩; simp
    · rintro ⟨h1, h2, h3, h4, h5, h6, ⟨h7, h8, h9⟩, h10, h11, h12⟩
      subst h7 h8 h9
      simp at h10 h11
      exact ⟨⟨rfl, rfl, by omega⟩, rfl, by omega⟩
  | false =>
    simp only [Bool.false_eq_true, if_false, Bool.and_eq_true, Bool.or_eq_true, beq_iff_eq, decide_eq_true_iff, false_implies, true_and]
    constructor
    · rintro ⟨⟨⟨h1, h2⟩, h3⟩, h4⟩
      refine ⟨h1, h2, by omega, by omega, by omega, by omega, ?_, by omega, by omega⟩
      split
      · omega
      · split <;> omega
    · rintro ⟨h1, h2, h3, h4, h5, h6, h10, h11, h12⟩
      refine ⟨⟨⟨h1, h2⟩, ?_⟩, ?_⟩
      · by_cases e1 : p = 1
        · rw [if_pos e1] at h10; omega
        · rw [if_neg e1] at h10
          by_cases e2 : p = 2
          · rw [if_pos e2] at h10; omega
          · rw [if_neg e2] at h10; omega
      · by_cases e : g = 1
        · have := h12 e; omega
        · have := h11 e; omega

set_option maxRecDepth 100000 in
set_option maxHeartbeats 32000000 in
theorem fields_raw (a : Bool) (f p : Int) (pa : Option Addr) (np pc : Nat) (g : Int) (fa : Option Addr) (nf fc : Nat) (w : World) (hf0 : -9223372036854775808 ≤ f) (hf1 : f ≤ 9223372036854775807) :
    Calls Try.prog 57 #[.agg #[.bool a, .int .i64 f, .int .i64 p, .slice pa np pc, .int .i64 g, .slice fa nf fc]] w fun e w' => e = .returned (.bool (fieldsR a f p np g nf)) ∧ Below w.heap.size w w' := by
  have hA := andNot63 hf0 hf1
  have hres : fieldsR a f p np g nf = if a then f == 0 && (p == 0 && np == 0) && (g == 0 && nf == 0) else decide (0 ≤ f ∧ f ≤ 63) && ((p == 0 && np == 0) || hasPr p np) && ((g == 0 && nf == 0) || (hasFr g nf && decide (nf ≤ 9))) := rfl
  generalize fieldsR a f p np g nf = z at hres ⊢
  obtain ⟨W, hW⟩ : ∃ W, W = w.alloc (.cells #[.bool a, .int .i64 f, .int .i64 p, .slice pa np pc, .int .i64 g, .slice fa nf fc] 49) := ⟨_, rfl⟩
  obtain ⟨gg, hgg⟩ : ∃ gg, gg = w.heap.size := ⟨_, rfl⟩
  have HBX := Lib.hid (show BoxAt W gg a f p (.slice pa np pc) g (.slice fa nf fc) by rw [hW, hgg]; exact BoxAt.made _ _ _ _ _ _ _)
  have HBW := Lib.hid (show Below w.heap.size w W by rw [hW]; exact (Below.refl _ _).alloc (Nat.le_refl _) _)
  have HW := Lib.hid hW
  have HG := Lib.hid hgg
  have HA := Lib.hid hA
  have HZ := Lib.hid hres
  clear hA hres hW hgg hf0 hf1
  cases a with
  | true =>
    rw [if_pos rfl] at HZ
    by_cases hp : p = 0
    case neg =>
      have e1 : (p == 0) = false := beq_false_of_ne hp
      have hz1 : (p == 0 && np == 0) = false := by rw [e1]; rfl
      rw [hz1] at HZ
      clear hp hz1
      by_cases hg : g = 0
      case neg =>
        have e2 : (g == 0) = false := beq_false_of_ne hg
        have hz2 : (g == 0 && nf == 0) = false := by rw [e2]; rfl
        rw [hz2] at HZ
        clear hg hz2
        by_cases h0 : f = 0
        case neg =>
          have e0 : (f == 0) = false := beq_false_of_ne h0
          have hzf : z = false := by rw [HZ.out]; simp [e0]
          have HZF := Lib.hid hzf
          clear hzf h0 HA
          go_enter Try.func57, Try.ntmps57
          go_wp2
          go_ret
          exact ⟨ret_bool (by rw [HZF.out]), by have := HBW.out; rwa [HW.out] at this⟩
        subst h0
        have HZF := Lib.hid HZ.out
        clear HA
        go_enter Try.func57, Try.ntmps57
        go_wp2
        go_ret
        exact ⟨ret_bool (by rw [HZF.out]; rfl), by have := HBW.out; rwa [HW.out] at this⟩
      subst hg
      by_cases hm : nf = 0
      case neg =>
        have e2 : ((nf : Int) == 0) = false := beq_false_of_ne (by omega)
        have hz2 : ((0 : Int) == 0 && nf == 0) = false := by rw [beq_false_of_ne hm]; rfl
        rw [hz2] at HZ
        clear hm hz2
        by_cases h0 : f = 0
        case neg =>
          have e0 : (f == 0) = false := beq_false_of_ne h0
          have hzf : z = false := by rw [HZ.out]; simp [e0]
          have HZF := Lib.hid hzf
          clear hzf h0 HA
          go_enter Try.func57, Try.ntmps57
          go_wp2
          go_ret
          exact ⟨ret_bool (by rw [HZF.out]), by have := HBW.out; rwa [HW.out] at this⟩
        subst h0
        have HZF := Lib.hid HZ.out
        clear HA
        go_enter Try.func57, Try.ntmps57
        go_wp2
        go_ret
        exact ⟨ret_bool (by rw [HZF.out]; rfl), by have := HBW.out; rwa [HW.out] at this⟩
      subst hm
      have hz2 : ((0 : Int) == 0 && (0 : Nat) == 0) = true := rfl
      rw [hz2] at HZ
      clear hz2
      by_cases h0 : f = 0
      case neg =>
        have e0 : (f == 0) = false := beq_false_of_ne h0
        have hzf : z = false := by rw [HZ.out]; simp [e0]
        have HZF := Lib.hid hzf
        clear hzf h0 HA
        go_enter Try.func57, Try.ntmps57
        go_wp2
        go_ret
        exact ⟨ret_bool (by rw [HZF.out]), by have := HBW.out; rwa [HW.out] at this⟩
      subst h0
      have HZF := Lib.hid HZ.out
      clear HA
      go_enter Try.func57, Try.ntmps57
      go_wp2
      go_ret
      exact ⟨ret_bool (by rw [HZF.out]; rfl), by have := HBW.out; rwa [HW.out] at this⟩
    subst hp
    by_cases hn : np = 0
    case neg =>
      have e1 : ((np : Int) == 0) = false := beq_false_of_ne (by omega)
      have hz1 : ((0 : Int) == 0 && np == 0) = false := by rw [beq_false_of_ne hn]; rfl
      rw [hz1] at HZ
      clear hn hz1
      by_cases hg : g = 0
      case neg =>
        have e2 : (g == 0) = false := beq_false_of_ne hg
        have hz2 : (g == 0 && nf == 0) = false := by rw [e2]; rfl
        rw [hz2] at HZ
        clear hg hz2
        by_cases h0 : f = 0
        case neg =>
          have e0 : (f == 0) = false := beq_false_of_ne h0
          have hzf : z = false := by rw [HZ.out]; simp [e0]
          have HZF := Lib.hid hzf
          clear hzf h0 HA
          go_enter Try.func57, Try.ntmps57
          go_wp2
          go_ret
          exact ⟨ret_bool (by rw [HZF.out]), by have := HBW.out; rwa [HW.out] at this⟩
        subst h0
        have HZF := Lib.hid HZ.out
        clear HA
        go_enter Try.func57, Try.ntmps57
        go_wp2
        go_ret
        exact ⟨ret_bool (by rw [HZF.out]; rfl), by have := HBW.out; rwa [HW.out] at this⟩
      subst hg
      by_cases hm : nf = 0
      case neg =>
        have e2 : ((nf : Int) == 0) = false := beq_false_of_ne (by omega)
        have hz2 : ((0 : Int) == 0 && nf == 0) = false := by rw [beq_false_of_ne hm]; rfl
        rw [hz2] at HZ
        clear hm hz2
        by_cases h0 : f = 0
        case neg =>
          have e0 : (f == 0) = false := beq_false_of_ne h0
          have hzf : z = false := by rw [HZ.out]; simp [e0]
          have HZF := Lib.hid hzf
          clear hzf h0 HA
          go_enter Try.func57, Try.ntmps57
          go_wp2
          go_ret
          exact ⟨ret_bool (by rw [HZF.out]), by have := HBW.out; rwa [HW.out] at this⟩
        subst h0
        have HZF := Lib.hid HZ.out
        clear HA
        go_enter Try.func57, Try.ntmps57
        go_wp2
        go_ret
        exact ⟨ret_bool (by rw [HZF.out]; rfl), by have := HBW.out; rwa [HW.out] at this⟩
      subst hm
      have hz2 : ((0 : Int) == 0 && (0 : Nat) == 0) = true := rfl
      rw [hz2] at HZ
      clear hz2
      by_cases h0 : f = 0
      case neg =>
        have e0 : (f == 0) = false := beq_false_of_ne h0
        have hzf : z = false := by rw [HZ.out]; simp [e0]
        have HZF := Lib.hid hzf
        clear hzf h0 HA
        go_enter Try.func57, Try.ntmps57
        go_wp2
        go_ret
        exact ⟨ret_bool (by rw [HZF.out]), by have := HBW.out; rwa [HW.out] at this⟩
      subst h0
      have HZF := Lib.hid HZ.out
      clear HA
      go_enter Try.func57, Try.ntmps57
      go_wp2
      go_ret
      exact ⟨ret_bool (by rw [HZF.out]; rfl), by have := HBW.out; rwa [HW.out] at this⟩
    subst hn
    have hz1 : ((0 : Int) == 0 && (0 : Nat) == 0) = true := rfl
    rw [hz1] at HZ
    clear hz1
    by_cases hg : g = 0
    case neg =>
      have e2 : (g == 0) = false := beq_false_of_ne hg
      have hz2 : (g == 0 && nf == 0) = false := by rw [e2]; rfl
      rw [hz2] at HZ
      clear hg hz2
      by_cases h0 : f = 0
      case neg =>
        have e0 : (f == 0) = false := beq_false_of_ne h0
        have hzf : z = false := by rw [HZ.out]; simp [e0]
        have HZF := Lib.hid hzf
        clear hzf h0 HA
        go_enter Try.func57, Try.ntmps57
        go_wp2
        go_ret
        exact ⟨ret_bool (by rw [HZF.out]), by have := HBW.out; rwa [HW.out] at this⟩
      subst h0
      have HZF := Lib.hid HZ.out
      clear HA
      go_enter Try.func57, Try.ntmps57
      go_wp2
      go_ret
      exact ⟨ret_bool (by rw [HZF.out]; rfl), by have := HBW.out; rwa [HW.out] at this⟩
    subst hg
    by_cases hm : nf = 0
    case neg =>
      have e2 : ((nf : Int) == 0) = false := beq_false_of_ne (by omega)
      have hz2 : ((0 : Int) == 0 && nf == 0) = false := by rw [beq_false_of_ne hm]; rfl
      rw [hz2] at HZ
      clear hm hz2
      by_cases h0 : f = 0
      case neg =>
        have e0 : (f == 0) = false := beq_false_of_ne h0
        have hzf : z = false := by rw [HZ.out]; simp [e0]
        have HZF := Lib.hid hzf
        clear hzf h0 HA
        go_enter Try.func57, Try.ntmps57
        go_wp2
        go_ret
        exact ⟨ret_bool (by rw [HZF.out]), by have := HBW.out; rwa [HW.out] at this⟩
      subst h0
      have HZF := Lib.hid HZ.out
      clear HA
      go_enter Try.func57, Try.ntmps57
      go_wp2
      go_ret
      exact ⟨ret_bool (by rw [HZF.out]; rfl), by have := HBW.out; rwa [HW.out] at this⟩
    subst hm
    have hz2 : ((0 : Int) == 0 && (0 : Nat) == 0) = true := rfl
    rw [hz2] at HZ
    clear hz2
    by_cases h0 : f = 0
    case neg =>
      have e0 : (f == 0) = false := beq_false_of_ne h0
      have hzf : z = false := by rw [HZ.out]; simp [e0]
      have HZF := Lib.hid hzf
      clear hzf h0 HA
      go_enter Try.func57, Try.ntmps57
      go_wp2
      go_ret
      exact ⟨ret_bool (by rw [HZF.out]), by have := HBW.out; rwa [HW.out] at this⟩
    subst h0
    have HZF := Lib.hid HZ.out
    clear HA
    go_enter Try.func57, Try.ntmps57
    go_wp2
    go_ret
    exact ⟨ret_bool (by rw [HZF.out]; rfl), by have := HBW.out; rwa [HW.out] at this⟩
  | false =>
    rw [if_neg (by simp)] at HZ
    by_cases hfl : 0 ≤ f ∧ f ≤ 63
    case neg =>
      have e3 : (bits .andNot .i64 f 63 == 0) = false := by rw [HA.out, decide_eq_false hfl]
      have hzf : z = false := by rw [HZ.out, decide_eq_false hfl]; rfl
      have HZF := Lib.hid hzf
      clear hzf hfl HA HZ
      obtain ⟨HZ, _⟩ : True ∧ True := ⟨trivial, trivial⟩
      by_cases hp : p = 0
      case neg =>
        have e1 : (p == 0) = false := beq_false_of_ne hp
        clear hp
        by_cases hg : g = 0
        case neg =>
          have e2 : (g == 0) = false := beq_false_of_ne hg
          clear hg
          go_enter Try.func57, Try.ntmps57
          go_wp2
          go_ret
          exact ⟨ret_bool (by rw [HZF.out]), by have := HBW.out; rwa [HW.out] at this⟩
        subst hg
        by_cases hm : nf = 0
        case neg =>
          have e2 : ((nf : Int) == 0) = false := beq_false_of_ne (by omega)
          clear hm
          go_enter Try.func57, Try.ntmps57
          go_wp2
          go_ret
          exact ⟨ret_bool (by rw [HZF.out]), by have := HBW.out; rwa [HW.out] at this⟩
        subst hm
        go_enter Try.func57, Try.ntmps57
        go_wp2
        go_ret
        exact ⟨ret_bool (by rw [HZF.out]), by have := HBW.out; rwa [HW.out] at this⟩
      subst hp
      by_cases hn : np = 0
      case neg =>
        have e1 : ((np : Int) == 0) = false := beq_false_of_ne (by omega)
        clear hn
        by_cases hg : g = 0
        case neg =>
          have e2 : (g == 0) = false := beq_false_of_ne hg
          clear hg
          go_enter Try.func57, Try.ntmps57
          go_wp2
          go_ret
          exact ⟨ret_bool (by rw [HZF.out]), by have := HBW.out; rwa [HW.out] at this⟩
        subst hg
        by_cases hm : nf = 0
        case neg =>
          have e2 : ((nf : Int) == 0) = false := beq_false_of_ne (by omega)
          clear hm
          go_enter Try.func57, Try.ntmps57
          go_wp2
          go_ret
          exact ⟨ret_bool (by rw [HZF.out]), by have := HBW.out; rwa [HW.out] at this⟩
        subst hm
        go_enter Try.func57, Try.ntmps57
        go_wp2
        go_ret
        exact ⟨ret_bool (by rw [HZF.out]), by have := HBW.out; rwa [HW.out] at this⟩
      subst hn
      by_cases hg : g = 0
      case neg =>
        have e2 : (g == 0) = false := beq_false_of_ne hg
        clear hg
        go_enter Try.func57, Try.ntmps57
        go_wp2
        go_ret
        exact ⟨ret_bool (by rw [HZF.out]), by have := HBW.out; rwa [HW.out] at this⟩
      subst hg
      by_cases hm : nf = 0
      case neg =>
        have e2 : ((nf : Int) == 0) = false := beq_false_of_ne (by omega)
        clear hm
        go_enter Try.func57, Try.ntmps57
        go_wp2
        go_ret
        exact ⟨ret_bool (by rw [HZF.out]), by have := HBW.out; rwa [HW.out] at this⟩
      subst hm
      go_enter Try.func57, Try.ntmps57
      go_wp2
      go_ret
      exact ⟨ret_bool (by rw [HZF.out]), by have := HBW.out; rwa [HW.out] at this⟩
    have e3 : (bits .andNot .i64 f 63 == 0) = true := by rw [HA.out, decide_eq_true hfl]
    rw [decide_eq_true hfl] at HZ
    clear hfl HA
    by_cases hp : p = 0
    case neg =>
      have e1 : (p == 0) = false := beq_false_of_ne hp
      have hz1 : (p == 0 && np == 0) = false := by rw [e1]; rfl
      rw [hz1] at HZ
      clear hp hz1
      by_cases hg : g = 0
      case neg =>
        have e2 : (g == 0) = false := beq_false_of_ne hg
        have hz2 : (g == 0 && nf == 0) = false := by rw [e2]; rfl
        rw [hz2] at HZ
        clear hg hz2
        have HZ2 := Lib.hid HZ.out
        go_enter Try.func57, Try.ntmps57
        go_wp2_with fail
        rw [← HG.out, ← HW.out]
        refine (hasP_raw _ _ _ _ _ _ _ _ _ _ W).mono ?_
        rintro e w2 ⟨rfl, hb2⟩
        have HB2 := Lib.hid (HBW.out.trans (hb2.mono HBW.out.size))
        have HX2 := Lib.hid (HBX.out.keep hb2)
        clear hb2
        generalize hasPr _ np = zp at HZ2 ⊢
        have x0 := HX2.out.c0
        have x1 := HX2.out.c1
        have x2 := HX2.out.c2
        have x3 := HX2.out.c3
        have x4 := HX2.out.c4
        have x5 := HX2.out.c5
        cases zp with
        | false =>
          have hzf : z = false := by rw [HZ2.out]; rfl
          go_wp2
          go_ret
          exact ⟨ret_bool (by rw [hzf]), HB2.out⟩
        | true =>
          go_wp2_with fail
          refine (hasF_raw _ _ _ _ _ _ _ _ _ _ w2).mono ?_
          rintro e w3 ⟨rfl, hb3⟩
          have HB3 := Lib.hid (HB2.out.trans (hb3.mono HB2.out.size))
          have y5 := (HX2.out.keep hb3).c5
          clear hb3
          generalize hasFr _ nf = zh at HZ2 ⊢
          cases zh with
          | false =>
            have hzf : z = false := by rw [HZ2.out]; rfl
            go_wp2
            go_ret
            exact ⟨ret_bool (by rw [hzf]), HB3.out⟩
          | true =>
            by_cases h9 : nf ≤ 9
            · have hzf : z = true := by rw [HZ2.out, decide_eq_true h9]; rfl
              have h9' : (nf : Int) ≤ 9 := by omega
              go_wp2
              go_ret
              exact ⟨ret_bool (by rw [hzf]), HB3.out⟩
            · have hzf : z = false := by rw [HZ2.out, decide_eq_false h9]; rfl
              have h9' : ¬ (nf : Int) ≤ 9 := by omega
              go_wp2
              go_ret
              exact ⟨ret_bool (by rw [hzf]; exact decide_eq_false (by omega)), HB3.out⟩
      subst hg
      by_cases hm : nf = 0
      case neg =>
        have e2 : ((nf : Int) == 0) = false := beq_false_of_ne (by omega)
        have hz2 : ((0 : Int) == 0 && nf == 0) = false := by rw [beq_false_of_ne hm]; rfl
        rw [hz2] at HZ
        clear hm hz2
        have HZ2 := Lib.hid HZ.out
        go_enter Try.func57, Try.ntmps57
        go_wp2_with fail
        rw [← HG.out, ← HW.out]
        refine (hasP_raw _ _ _ _ _ _ _ _ _ _ W).mono ?_
        rintro e w2 ⟨rfl, hb2⟩
        have HB2 := Lib.hid (HBW.out.trans (hb2.mono HBW.out.size))
        have HX2 := Lib.hid (HBX.out.keep hb2)
        clear hb2
        generalize hasPr _ np = zp at HZ2 ⊢
        have x0 := HX2.out.c0
        have x1 := HX2.out.c1
        have x2 := HX2.out.c2
        have x3 := HX2.out.c3
        have x4 := HX2.out.c4
        have x5 := HX2.out.c5
        cases zp with
        | false =>
          have hzf : z = false := by rw [HZ2.out]; rfl
          go_wp2
          go_ret
          exact ⟨ret_bool (by rw [hzf]), HB2.out⟩
        | true =>
          go_wp2_with fail
          refine (hasF_raw _ _ _ _ _ _ _ _ _ _ w2).mono ?_
          rintro e w3 ⟨rfl, hb3⟩
          have HB3 := Lib.hid (HB2.out.trans (hb3.mono HB2.out.size))
          have y5 := (HX2.out.keep hb3).c5
          clear hb3
          generalize hasFr _ nf = zh at HZ2 ⊢
          cases zh with
          | false =>
            have hzf : z = false := by rw [HZ2.out]; rfl
            go_wp2
            go_ret
            exact ⟨ret_bool (by rw [hzf]), HB3.out⟩
          | true =>
            by_cases h9 : nf ≤ 9
            · have hzf : z = true := by rw [HZ2.out, decide_eq_true h9]; rfl
              have h9' : (nf : Int) ≤ 9 := by omega
              go_wp2
              go_ret
              exact ⟨ret_bool (by rw [hzf]), HB3.out⟩
            · have hzf : z = false := by rw [HZ2.out, decide_eq_false h9]; rfl
              have h9' : ¬ (nf : Int) ≤ 9 := by omega
              go_wp2
              go_ret
              exact ⟨ret_bool (by rw [hzf]; exact decide_eq_false (by omega)), HB3.out⟩
      subst hm
      have hz2 : ((0 : Int) == 0 && (0 : Nat) == 0) = true := rfl
      rw [hz2] at HZ
      clear hz2
      have HZ2 := Lib.hid HZ.out
      go_enter Try.func57, Try.ntmps57
      go_wp2_with fail
      rw [← HG.out, ← HW.out]
      refine (hasP_raw _ _ _ _ _ _ _ _ _ _ W).mono ?_
      rintro e w2 ⟨rfl, hb2⟩
      have HB2 := Lib.hid (HBW.out.trans (hb2.mono HBW.out.size))
      have HX2 := Lib.hid (HBX.out.keep hb2)
      clear hb2
      generalize hasPr _ np = zp at HZ2 ⊢
      have x0 := HX2.out.c0
      have x1 := HX2.out.c1
      have x2 := HX2.out.c2
      have x3 := HX2.out.c3
      have x4 := HX2.out.c4
      have x5 := HX2.out.c5
      cases zp with
      | false =>
        have hzf : z = false := by rw [HZ2.out]; rfl
        go_wp2
        go_ret
        exact ⟨ret_bool (by rw [hzf]), HB2.out⟩
      | true =>
        go_wp2
        go_ret
        exact ⟨ret_bool (by rw [HZ2.out]; rfl), HB2.out⟩
    subst hp
    by_cases hn : np = 0
    case neg =>
      have e1 : ((np : Int) == 0) = false := beq_false_of_ne (by omega)
      have hz1 : ((0 : Int) == 0 && np == 0) = false := by rw [beq_false_of_ne hn]; rfl
      rw [hz1] at HZ
      clear hn hz1
      by_cases hg : g = 0
      case neg =>
        have e2 : (g == 0) = false := beq_false_of_ne hg
        have hz2 : (g == 0 && nf == 0) = false := by rw [e2]; rfl
        rw [hz2] at HZ
        clear hg hz2
        have HZ2 := Lib.hid HZ.out
        go_enter Try.func57, Try.ntmps57
        go_wp2_with fail
        rw [← HG.out, ← HW.out]
        refine (hasP_raw _ _ _ _ _ _ _ _ _ _ W).mono ?_
        rintro e w2 ⟨rfl, hb2⟩
        have HB2 := Lib.hid (HBW.out.trans (hb2.mono HBW.out.size))
        have HX2 := Lib.hid (HBX.out.keep hb2)
        clear hb2
        generalize hasPr _ np = zp at HZ2 ⊢
        have x0 := HX2.out.c0
        have x1 := HX2.out.c1
        have x2 := HX2.out.c2
        have x3 := HX2.out.c3
        have x4 := HX2.out.c4
        have x5 := HX2.out.c5
        cases zp with
        | false =>
          have hzf : z = false := by rw [HZ2.out]; rfl
          go_wp2
          go_ret
          exact ⟨ret_bool (by rw [hzf]), HB2.out⟩
        | true =>
          go_wp2_with fail
          refine (hasF_raw _ _ _ _ _ _ _ _ _ _ w2).mono ?_
          rintro e w3 ⟨rfl, hb3⟩
          have HB3 := Lib.hid (HB2.out.trans (hb3.mono HB2.out.size))
          have y5 := (HX2.out.keep hb3).c5
          clear hb3
          generalize hasFr _ nf = zh at HZ2 ⊢
          cases zh with
          | false =>
            have hzf : z = false := by rw [HZ2.out]; rfl
            go_wp2
            go_ret
            exact ⟨ret_bool (by rw [hzf]), HB3.out⟩
          | true =>
            by_cases h9 : nf ≤ 9
            · have hzf : z = true := by rw [HZ2.out, decide_eq_true h9]; rfl
              have h9' : (nf : Int) ≤ 9 := by omega
              go_wp2
              go_ret
              exact ⟨ret_bool (by rw [hzf]), HB3.out⟩
            · have hzf : z = false := by rw [HZ2.out, decide_eq_false h9]; rfl
              have h9' : ¬ (nf : Int) ≤ 9 := by omega
              go_wp2
              go_ret
              exact ⟨ret_bool (by rw [hzf]; exact decide_eq_false (by omega)), HB3.out⟩
      subst hg
      by_cases hm : nf = 0
      case neg =>
        have e2 : ((nf : Int) == 0) = false := beq_false_of_ne (by omega)
        have hz2 : ((0 : Int) == 0 && nf == 0) = false := by rw [beq_false_of_ne hm]; rfl
        rw [hz2] at HZ
        clear hm hz2
        have HZ2 := Lib.hid HZ.out
        go_enter Try.func57, Try.ntmps57
        go_wp2_with fail
        rw [← HG.out, ← HW.out]
        refine (hasP_raw _ _ _ _ _ _ _ _ _ _ W).mono ?_
        rintro e w2 ⟨rfl, hb2⟩
        have HB2 := Lib.hid (HBW.out.trans (hb2.mono HBW.out.size))
        have HX2 := Lib.hid (HBX.out.keep hb2)
        clear hb2
        generalize hasPr _ np = zp at HZ2 ⊢
        have x0 := HX2.out.c0
        have x1 := HX2.out.c1
        have x2 := HX2.out.c2
        have x3 := HX2.out.c3
        have x4 := HX2.out.c4
        have x5 := HX2.out.c5
        cases zp with
        | false =>
          have hzf : z = false := by rw [HZ2.out]; rfl
          go_wp2
          go_ret
          exact ⟨ret_bool (by rw [hzf]), HB2.out⟩
        | true =>
          go_wp2_with fail
          refine (hasF_raw _ _ _ _ _ _ _ _ _ _ w2).mono ?_
          rintro e w3 ⟨rfl, hb3⟩
          have HB3 := Lib.hid (HB2.out.trans (hb3.mono HB2.out.size))
          have y5 := (HX2.out.keep hb3).c5
          clear hb3
          generalize hasFr _ nf = zh at HZ2 ⊢
          cases zh with
          | false =>
            have hzf : z = false := by rw [HZ2.out]; rfl
            go_wp2
            go_ret
            exact ⟨ret_bool (by rw [hzf]), HB3.out⟩
          | true =>
            by_cases h9 : nf ≤ 9
            · have hzf : z = true := by rw [HZ2.out, decide_eq_true h9]; rfl
              have h9' : (nf : Int) ≤ 9 := by omega
              go_wp2
              go_ret
              exact ⟨ret_bool (by rw [hzf]), HB3.out⟩
            · have hzf : z = false := by rw [HZ2.out, decide_eq_false h9]; rfl
              have h9' : ¬ (nf : Int) ≤ 9 := by omega
              go_wp2
              go_ret
              exact ⟨ret_bool (by rw [hzf]; exact decide_eq_false (by omega)), HB3.out⟩
      subst hm
      have hz2 : ((0 : Int) == 0 && (0 : Nat) == 0) = true := rfl
      rw [hz2] at HZ
      clear hz2
      have HZ2 := Lib.hid HZ.out
      go_enter Try.func57, Try.ntmps57
      go_wp2_with fail
      rw [← HG.out, ← HW.out]
      refine (hasP_raw _ _ _ _ _ _ _ _ _ _ W).mono ?_
      rintro e w2 ⟨rfl, hb2⟩
      have HB2 := Lib.hid (HBW.out.trans (hb2.mono HBW.out.size))
      have HX2 := Lib.hid (HBX.out.keep hb2)
      clear hb2
      generalize hasPr _ np = zp at HZ2 ⊢
      have x0 := HX2.out.c0
      have x1 := HX2.out.c1
      have x2 := HX2.out.c2
      have x3 := HX2.out.c3
      have x4 := HX2.out.c4
      have x5 := HX2.out.c5
      cases zp with
      | false =>
        have hzf : z = false := by rw [HZ2.out]; rfl
        go_wp2
        go_ret
        exact ⟨ret_bool (by rw [hzf]), HB2.out⟩
      | true =>
        go_wp2
        go_ret
        exact ⟨ret_bool (by rw [HZ2.out]; rfl), HB2.out⟩
    subst hn
    have hz1 : ((0 : Int) == 0 && (0 : Nat) == 0) = true := rfl
    rw [hz1] at HZ
    clear hz1
    by_cases hg : g = 0
    case neg =>
      have e2 : (g == 0) = false := beq_false_of_ne hg
      have hz2 : (g == 0 && nf == 0) = false := by rw [e2]; rfl
      rw [hz2] at HZ
      clear hg hz2
      have HZ2 := Lib.hid HZ.out
      go_enter Try.func57, Try.ntmps57
      go_wp2_with fail
      rw [← HG.out, ← HW.out]
      refine (hasF_raw _ _ _ _ _ _ _ _ _ _ W).mono ?_
      rintro e w3 ⟨rfl, hb3⟩
      have HB3 := Lib.hid (HBW.out.trans (hb3.mono HBW.out.size))
      have y5 := (HBX.out.keep hb3).c5
      clear hb3
      generalize hasFr _ nf = zh at HZ2 ⊢
      cases zh with
      | false =>
        have hzf : z = false := by rw [HZ2.out]; rfl
        go_wp2
        go_ret
        exact ⟨ret_bool (by rw [hzf]), HB3.out⟩
      | true =>
        by_cases h9 : nf ≤ 9
        · have hzf : z = true := by rw [HZ2.out, decide_eq_true h9]; rfl
          have h9' : (nf : Int) ≤ 9 := by omega
          go_wp2
          go_ret
          exact ⟨ret_bool (by rw [hzf]), HB3.out⟩
        · have hzf : z = false := by rw [HZ2.out, decide_eq_false h9]; rfl
          have h9' : ¬ (nf : Int) ≤ 9 := by omega
          go_wp2
          go_ret
          exact ⟨ret_bool (by rw [hzf]; exact decide_eq_false (by omega)), HB3.out⟩
    subst hg
    by_cases hm : nf = 0
    case neg =>
      have e2 : ((nf : Int) == 0) = false := beq_false_of_ne (by omega)
      have hz2 : ((0 : Int) == 0 && nf == 0) = false := by rw [beq_false_of_ne hm]; rfl
      rw [hz2] at HZ
      clear hm hz2
      have HZ2 := Lib.hid HZ.out
      go_enter Try.func57, Try.ntmps57
      go_wp2_with fail
      rw [← HG.out, ← HW.out]
      refine (hasF_raw _ _ _ _ _ _ _ _ _ _ W).mono ?_
      rintro e w3 ⟨rfl, hb3⟩
      have HB3 := Lib.hid (HBW.out.trans (hb3.mono HBW.out.size))
      have y5 := (HBX.out.keep hb3).c5
      clear hb3
      generalize hasFr _ nf = zh at HZ2 ⊢
      cases zh with
      | false =>
        have hzf : z = false := by rw [HZ2.out]; rfl
        go_wp2
        go_ret
        exact ⟨ret_bool (by rw [hzf]), HB3.out⟩
      | true =>
        by_cases h9 : nf ≤ 9
        · have hzf : z = true := by rw [HZ2.out, decide_eq_true h9]; rfl
          have h9' : (nf : Int) ≤ 9 := by omega
          go_wp2
          go_ret
          exact ⟨ret_bool (by rw [hzf]), HB3.out⟩
        · have hzf : z = false := by rw [HZ2.out, decide_eq_false h9]; rfl
          have h9' : ¬ (nf : Int) ≤ 9 := by omega
          go_wp2
          go_ret
          exact ⟨ret_bool (by rw [hzf]; exact decide_eq_false (by omega)), HB3.out⟩
    subst hm
    have hz2 : ((0 : Int) == 0 && (0 : Nat) == 0) = true := rfl
    rw [hz2] at HZ
    clear hz2
    have HZ2 := Lib.hid HZ.out
    go_enter Try.func57, Try.ntmps57
    go_wp2
    go_ret
    exact ⟨ret_bool (by rw [HZ2.out]; rfl), by have := HBW.out; rwa [HW.out] at this⟩
end Go.Proofs.Ytgjkobkcmgliaaa
