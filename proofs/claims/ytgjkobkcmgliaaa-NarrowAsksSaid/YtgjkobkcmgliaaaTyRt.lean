import Derived.Test.YtgjkobkcmgliaaaTyL2
import Derived.Test.YtgjkobkcmgliaaaTyW
import Derived.Test.YtgjkobkcmgliaaaTyB
import Derived.Laws.EntriesVeiled
-- joined
namespace Go.Proofs.Ytgjkobkcmgliaaa
open Go.RowKit

theorem andNot63 {f : Int} (h0 : -9223372036854775808 ≤ f) (h1 : f ≤ 9223372036854775807) : (bits .andNot .i64 f 63 == 0) = decide (0 ≤ f ∧ f ≤ 63) := by
  have hb : bits .andNot .i64 f 63 = IntKind.i64.wrap ((BitVec.ofInt 64 f &&& ~~~ (BitVec.ofInt 64 63)).toNat : Int) := rfl
  have hx : (BitVec.ofInt 64 f).toNat = (f % ((2 ^ 64 : Nat) : Int)).toNat := BitVec.toNat_ofInt ..
  have hm : (BitVec.ofInt 64 63).toNat = 2 ^ 6 - 1 := by decide
  rw [hb]
  generalize BitVec.ofInt 64 f = x at hx ⊢
  generalize BitVec.ofInt 64 63 = m at hm ⊢
  have hw : IntKind.i64.wrap ((x &&& ~~~ m).toNat : Int) = 0 ↔ x &&& ~~~ m = 0#64 := by
    have hlt := (x &&& ~~~ m).isLt
    rw [IntKind.wrap_i64, ← BitVec.toNat_inj]
    show _ ↔ _ = 0
    omega
  have hz : x &&& ~~~ m = 0#64 ↔ x &&& m = x := by
    constructor
    · intro h
      apply BitVec.eq_of_getLsbD_eq
      intro i _
      have := congrArg (fun b => b.getLsbD i) h
      simp only [BitVec.getLsbD_and, BitVec.getLsbD_not, BitVec.getLsbD_zero] at this ⊢
      cases hxi : x.getLsbD i <;> cases hmi : m.getLsbD i <;> simp_all
    · intro h
      rw [← h]
      apply BitVec.eq_of_getLsbD_eq
      intro i _
      simp only [BitVec.getLsbD_and, BitVec.getLsbD_not, BitVec.getLsbD_zero]
      cases x.getLsbD i <;> cases m.getLsbD i <;> simp
  have hy : x &&& m = x ↔ x.toNat % 64 = x.toNat := by
    rw [← BitVec.toNat_inj, BitVec.toNat_and, hm, Nat.and_two_pow_sub_one_eq_mod]
  have hq : (IntKind.i64.wrap ((x &&& ~~~ m).toNat : Int) = 0) ↔ (0 ≤ f ∧ f ≤ 63) := by
    rw [hw, hz, hy, hx]
    omega
  by_cases h : 0 ≤ f ∧ f ≤ 63
  · rw [decide_eq_true h, hq.2 h]; rfl
  · rw [decide_eq_false h]; exact beq_false_of_ne fun e => h (hq.1 e)
def fieldsR (a : Bool) (f p : Int) (np : Nat) (g : Int) (nf : Nat) : Bool :=
  if a then f == 0 && (p == 0 && np == 0) && (g == 0 && nf == 0) else decide (0 ≤ f ∧ f ≤ 63) && ((p == 0 && np == 0) || hasPr p np) && ((g == 0 && nf == 0) || (hasFr g nf && decide (nf ≤ 9)))
theorem fieldsR_head (t : Ty) : fieldsR t.all t.flat t.pair t.pairs.length t.fn t.funs.length = headOK t := by
  have hk : headOK t = true ↔ (0 ≤ t.flat ∧ t.flat ≤ 63 ∧ 0 ≤ t.pair ∧ t.pair ≤ 2 ∧ 0 ≤ t.fn ∧ t.fn ≤ 2 ∧ (t.all = true → t.flat = 0 ∧ t.pair = 0 ∧ t.fn = 0) ∧
    (t.pairs.length : Int) = (if t.pair = 1 then 2 else if t.pair = 2 then 1 else 0) ∧ (t.fn ≠ 1 → t.funs.length = 0) ∧ (t.fn = 1 → 1 ≤ t.funs.length ∧ t.funs.length ≤ 9)) := by unfold headOK; exact decide_eq_true_iff
  rw [Bool.eq_iff_iff, hk]
  unfold fieldsR hasPr hasFr
  generalize t.pairs.length = n
  generalize t.funs.length = m
  generalize t.all = a
  generalize t.flat = f
  generalize t.pair = p
  generalize t.fn = g
  cases a with
  | true =>
    simp only [if_true, Bool.and_eq_true, beq_iff_eq, true_implies]
    constructor
    · rintro ⟨⟨rfl, rfl, rfl⟩, rfl, rfl⟩; simp
    · rintro ⟨h1, h2, h3, h4, h5, h6, ⟨h7, h8, h9⟩, h10, h11, h12⟩
      subst h7 h8 h9
      simp at h10 h11
      exact ⟨⟨rfl, rfl, by omega⟩, rfl, by omega⟩
  | false =>
    simp only [Bool.false_eq_true, if_false, Bool.and_eq_true, Bool.or_eq_true, beq_iff_eq, decide_eq_true_iff, false_implies, true_and]
    constructor
    · rintro ⟨⟨⟨h1, h2⟩, h3⟩, h4⟩
      refine ⟨h1, h2, by omega, by omega, by omega, by omega, ?_, by omega, by omega⟩
      split
      · omega
      · split <;> omega
    · rintro ⟨h1, h2, h3, h4, h5, h6, h10, h11, h12⟩
      refine ⟨⟨⟨h1, h2⟩, ?_⟩, ?_⟩
      · by_cases e1 : p = 1
        · rw [if_pos e1] at h10; omega
        · rw [if_neg e1] at h10
          by_cases e2 : p = 2
          · rw [if_pos e2] at h10; omega
          · rw [if_neg e2] at h10; omega
      · by_cases e : g = 1
        · have := h12 e; omega
        · have := h11 e; omega

set_option maxRecDepth 100000 in
set_option maxHeartbeats 32000000 in
theorem fields_raw (a : Bool) (f p : Int) (pa : Option Addr) (np pc : Nat) (g : Int) (fa : Option Addr) (nf fc : Nat) (w : World) (hf0 : -9223372036854775808 ≤ f) (hf1 : f ≤ 9223372036854775807) :
    Calls Try.prog 57 #[.agg #[.bool a, .int .i64 f, .int .i64 p, .slice pa np pc, .int .i64 g, .slice fa nf fc]] w fun e w' => e = .returned (.bool (fieldsR a f p np g nf)) ∧ Below w.heap.size w w' := by
  have hA := andNot63 hf0 hf1
  have hres : fieldsR a f p np g nf = if a then f == 0 && (p == 0 && np == 0) && (g == 0 && nf == 0) else decide (0 ≤ f ∧ f ≤ 63) && ((p == 0 && np == 0) || hasPr p np) && ((g == 0 && nf == 0) || (hasFr g nf && decide (nf ≤ 9))) := rfl
  generalize fieldsR a f p np g nf = z at hres ⊢
  obtain ⟨W, hW⟩ : ∃ W, W = w.alloc (.cells #[.bool a, .int .i64 f, .int .i64 p, .slice pa np pc, .int .i64 g, .slice fa nf fc] 49) := ⟨_, rfl⟩
  obtain ⟨gg, hgg⟩ : ∃ gg, gg = w.heap.size := ⟨_, rfl⟩
  have HBX := Lib.hid (show BoxAt W gg a f p (.slice pa np pc) g (.slice fa nf fc) by rw [hW, hgg]; exact BoxAt.made _ _ _ _ _ _ _)
  have HBW := Lib.hid (show Below w.heap.size w W by rw [hW]; exact (Below.refl _ _).alloc (Nat.le_refl _) _)
  have HW := Lib.hid hW
  have HG := Lib.hid hgg
  have HA := Lib.hid hA
  have HZ := Lib.hid hres
  clear hA hres hW hgg hf0 hf1
  cases a with
  | true =>
    rw [if_pos rfl] at HZ
    by_cases hp : p = 0
    case neg =>
      have e1 : (p == 0) = false := beq_false_of_ne hp
      have hz1 : (p == 0 && np == 0) = false := by rw [e1]; rfl
      rw [hz1] at HZ
      clear hp hz1
      by_cases hg : g = 0
      case neg =>
        have e2 : (g == 0) = false := beq_false_of_ne hg
        have hz2 : (g == 0 && nf == 0) = false := by rw [e2]; rfl
        rw [hz2] at HZ
        clear hg hz2
        by_cases h0 : f = 0
        case neg =>
          have e0 : (f == 0) = false := beq_false_of_ne h0
          have hzf : z = false := by rw [HZ.out]; simp [e0]
          have HZF := Lib.hid hzf
          clear hzf h0 HA
          go_enter Try.func57, Try.ntmps57
          go_wp2
          go_ret
          exact ⟨ret_bool (by rw [HZF.out]), by have := HBW.out; rwa [HW.out] at this⟩
        subst h0
        have HZF := Lib.hid HZ.out
        clear HA
        go_enter Try.func57, Try.ntmps57
        go_wp2
        go_ret
        exact ⟨ret_bool (by rw [HZF.out]; rfl), by have := HBW.out; rwa [HW.out] at this⟩
      subst hg
      by_cases hm : nf = 0
      case neg =>
        have e2 : ((nf : Int) == 0) = false := beq_false_of_ne (by omega)
        have hz2 : ((0 : Int) == 0 && nf == 0) = false := by rw [beq_false_of_ne hm]; rfl
        rw [hz2] at HZ
        clear hm hz2
        by_cases h0 : f = 0
        case neg =>
          have e0 : (f == 0) = false := beq_false_of_ne h0
          have hzf : z = false := by rw [HZ.out]; simp [e0]
          have HZF := Lib.hid hzf
          clear hzf h0 HA
          go_enter Try.func57, Try.ntmps57
          go_wp2
          go_ret
          exact ⟨ret_bool (by rw [HZF.out]), by have := HBW.out; rwa [HW.out] at this⟩
        subst h0
        have HZF := Lib.hid HZ.out
        clear HA
        go_enter Try.func57, Try.ntmps57
        go_wp2
        go_ret
        exact ⟨ret_bool (by rw [HZF.out]; rfl), by have := HBW.out; rwa [HW.out] at this⟩
      subst hm
      have hz2 : ((0 : Int) == 0 && (0 : Nat) == 0) = true := rfl
      rw [hz2] at HZ
      clear hz2
      by_cases h0 : f = 0
      case neg =>
        have e0 : (f == 0) = false := beq_false_of_ne h0
        have hzf : z = false := by rw [HZ.out]; simp [e0]
        have HZF := Lib.hid hzf
        clear hzf h0 HA
        go_enter Try.func57, Try.ntmps57
        go_wp2
        go_ret
        exact ⟨ret_bool (by rw [HZF.out]), by have := HBW.out; rwa [HW.out] at this⟩
      subst h0
      have HZF := Lib.hid HZ.out
      clear HA
      go_enter Try.func57, Try.ntmps57
      go_wp2
      go_ret
      exact ⟨ret_bool (by rw [HZF.out]; rfl), by have := HBW.out; rwa [HW.out] at this⟩
    subst hp
    by_cases hn : np = 0
    case neg =>
      have e1 : ((np : Int) == 0) = false := beq_false_of_ne (by omega)
      have hz1 : ((0 : Int) == 0 && np == 0) = false := by rw [beq_false_of_ne hn]; rfl
      rw [hz1] at HZ
      clear hn hz1
      by_cases hg : g = 0
      case neg =>
        have e2 : (g == 0) = false := beq_false_of_ne hg
        have hz2 : (g == 0 && nf == 0) = false := by rw [e2]; rfl
        rw [hz2] at HZ
        clear hg hz2
        by_cases h0 : f = 0
        case neg =>
          have e0 : (f == 0) = false := beq_false_of_ne h0
          have hzf : z = false := by rw [HZ.out]; simp [e0]
          have HZF := Lib.hid hzf
          clear hzf h0 HA
          go_enter Try.func57, Try.ntmps57
          go_wp2
          go_ret
          exact ⟨ret_bool (by rw [HZF.out]), by have := HBW.out; rwa [HW.out] at this⟩
        subst h0
        have HZF := Lib.hid HZ.out
        clear HA
        go_enter Try.func57, Try.ntmps57
        go_wp2
        go_ret
        exact ⟨ret_bool (by rw [HZF.out]; rfl), by have := HBW.out; rwa [HW.out] at this⟩
      subst hg
      by_cases hm : nf = 0
      case neg =>
        have e2 : ((nf : Int) == 0) = false := beq_false_of_ne (by omega)
        have hz2 : ((0 : Int) == 0 && nf == 0) = false := by rw [beq_false_of_ne hm]; rfl
        rw [hz2] at HZ
        clear hm hz2
        by_cases h0 : f = 0
        case neg =>
          have e0 : (f == 0) = false := beq_false_of_ne h0
          have hzf : z = false := by rw [HZ.out]; simp [e0]
          have HZF := Lib.hid hzf
          clear hzf h0 HA
          go_enter Try.func57, Try.ntmps57
          go_wp2
          go_ret
          exact ⟨ret_bool (by rw [HZF.out]), by have := HBW.out; rwa [HW.out] at this⟩
        subst h0
        have HZF := Lib.hid HZ.out
        clear HA
        go_enter Try.func57, Try.ntmps57
        go_wp2
        go_ret
        exact ⟨ret_bool (by rw [HZF.out]; rfl), by have := HBW.out; rwa [HW.out] at this⟩
      subst hm
      have hz2 : ((0 : Int) == 0 && (0 : Nat) == 0) = true := rfl
      rw [hz2] at HZ
      clear hz2
      by_cases h0 : f = 0
      case neg =>
        have e0 : (f == 0) = false := beq_false_of_ne h0
        have hzf : z = false := by rw [HZ.out]; simp [e0]
        have HZF := Lib.hid hzf
        clear hzf h0 HA
        go_enter Try.func57, Try.ntmps57
        go_wp2
        go_ret
        exact ⟨ret_bool (by rw [HZF.out]), by have := HBW.out; rwa [HW.out] at this⟩
      subst h0
      have HZF := Lib.hid HZ.out
      clear HA
      go_enter Try.func57, Try.ntmps57
      go_wp2
      go_ret
      exact ⟨ret_bool (by rw [HZF.out]; rfl), by have := HBW.out; rwa [HW.out] at this⟩
    subst hn
    have hz1 : ((0 : Int) == 0 && (0 : Nat) == 0) = true := rfl
    rw [hz1] at HZ
    clear hz1
    by_cases hg : g = 0
    case neg =>
      have e2 : (g == 0) = false := beq_false_of_ne hg
      have hz2 : (g == 0 && nf == 0) = false := by rw [e2]; rfl
      rw [hz2] at HZ
      clear hg hz2
      by_cases h0 : f = 0
      case neg =>
        have e0 : (f == 0) = false := beq_false_of_ne h0
        have hzf : z = false := by rw [HZ.out]; simp [e0]
        have HZF := Lib.hid hzf
        clear hzf h0 HA
        go_enter Try.func57, Try.ntmps57
        go_wp2
        go_ret
        exact ⟨ret_bool (by rw [HZF.out]), by have := HBW.out; rwa [HW.out] at this⟩
      subst h0
      have HZF := Lib.hid HZ.out
      clear HA
      go_enter Try.func57, Try.ntmps57
      go_wp2
      go_ret
      exact ⟨ret_bool (by rw [HZF.out]; rfl), by have := HBW.out; rwa [HW.out] at this⟩
    subst hg
    by_cases hm : nf = 0
    case neg =>
      have e2 : ((nf : Int) == 0) = false := beq_false_of_ne (by omega)
      have hz2 : ((0 : Int) == 0 && nf == 0) = false := by rw [beq_false_of_ne hm]; rfl
      rw [hz2] at HZ
      clear hm hz2
      by_cases h0 : f = 0
      case neg =>
        have e0 : (f == 0) = false := beq_false_of_ne h0
        have hzf : z = false := by rw [HZ.out]; simp [e0]
        have HZF := Lib.hid hzf
        clear hzf h0 HA
        go_enter Try.func57, Try.ntmps57
        go_wp2
        go_ret
        exact ⟨ret_bool (by rw [HZF.out]), by have := HBW.out; rwa [HW.out] at this⟩
      subst h0
      have HZF := Lib.hid HZ.out
      clear HA
      go_enter Try.func57, Try.ntmps57
      go_wp2
      go_ret
      exact ⟨ret_bool (by rw [HZF.out]; rfl), by have := HBW.out; rwa [HW.out] at this⟩
    subst hm
    have hz2 : ((0 : Int) == 0 && (0 : Nat) == 0) = true := rfl
    rw [hz2] at HZ
    clear hz2
    by_cases h0 : f = 0
    case neg =>
      have e0 : (f == 0) = false := beq_false_of_ne h0
      have hzf : z = false := by rw [HZ.out]; simp [e0]
      have HZF := Lib.hid hzf
      clear hzf h0 HA
      go_enter Try.func57, Try.ntmps57
      go_wp2
      go_ret
      exact ⟨ret_bool (by rw [HZF.out]), by have := HBW.out; rwa [HW.out] at this⟩
    subst h0
    have HZF := Lib.hid HZ.out
    clear HA
    go_enter Try.func57, Try.ntmps57
    go_wp2
    go_ret
    exact ⟨ret_bool (by rw [HZF.out]; rfl), by have := HBW.out; rwa [HW.out] at this⟩
  | false =>
    rw [if_neg (by simp)] at HZ
    by_cases hfl : 0 ≤ f ∧ f ≤ 63
    case neg =>
      have e3 : (bits .andNot .i64 f 63 == 0) = false := by rw [HA.out, decide_eq_false hfl]
      have hzf : z = false := by rw [HZ.out, decide_eq_false hfl]; rfl
      have HZF := Lib.hid hzf
      clear hzf hfl HA HZ
      obtain ⟨HZ, _⟩ : True ∧ True := ⟨trivial, trivial⟩
      by_cases hp : p = 0
      case neg =>
        have e1 : (p == 0) = false := beq_false_of_ne hp
        clear hp
        by_cases hg : g = 0
        case neg =>
          have e2 : (g == 0) = false := beq_false_of_ne hg
          clear hg
          go_enter Try.func57, Try.ntmps57
          go_wp2
          go_ret
          exact ⟨ret_bool (by rw [HZF.out]), by have := HBW.out; rwa [HW.out] at this⟩
        subst hg
        by_cases hm : nf = 0
        case neg =>
          have e2 : ((nf : Int) == 0) = false := beq_false_of_ne (by omega)
          clear hm
          go_enter Try.func57, Try.ntmps57
          go_wp2
          go_ret
          exact ⟨ret_bool (by rw [HZF.out]), by have := HBW.out; rwa [HW.out] at this⟩
        subst hm
        go_enter Try.func57, Try.ntmps57
        go_wp2
        go_ret
        exact ⟨ret_bool (by rw [HZF.out]), by have := HBW.out; rwa [HW.out] at this⟩
      subst hp
      by_cases hn : np = 0
      case neg =>
        have e1 : ((np : Int) == 0) = false := beq_false_of_ne (by omega)
        clear hn
        by_cases hg : g = 0
        case neg =>
          have e2 : (g == 0) = false := beq_false_of_ne hg
          clear hg
          go_enter Try.func57, Try.ntmps57
          go_wp2
          go_ret
          exact ⟨ret_bool (by rw [HZF.out]), by have := HBW.out; rwa [HW.out] at this⟩
        subst hg
        by_cases hm : nf = 0
        case neg =>
          have e2 : ((nf : Int) == 0) = false := beq_false_of_ne (by omega)
          clear hm
          go_enter Try.func57, Try.ntmps57
          go_wp2
          go_ret
          exact ⟨ret_bool (by rw [HZF.out]), by have := HBW.out; rwa [HW.out] at this⟩
        subst hm
        go_enter Try.func57, Try.ntmps57
        go_wp2
        go_ret
        exact ⟨ret_bool (by rw [HZF.out]), by have := HBW.out; rwa [HW.out] at this⟩
      subst hn
      by_cases hg : g = 0
      case neg =>
        have e2 : (g == 0) = false := beq_false_of_ne hg
        clear hg
        go_enter Try.func57, Try.ntmps57
        go_wp2
        go_ret
        exact ⟨ret_bool (by rw [HZF.out]), by have := HBW.out; rwa [HW.out] at this⟩
      subst hg
      by_cases hm : nf = 0
      case neg =>
        have e2 : ((nf : Int) == 0) = false := beq_false_of_ne (by omega)
        clear hm
        go_enter Try.func57, Try.ntmps57
        go_wp2
        go_ret
        exact ⟨ret_bool (by rw [HZF.out]), by have := HBW.out; rwa [HW.out] at this⟩
      subst hm
      go_enter Try.func57, Try.ntmps57
      go_wp2
      go_ret
      exact ⟨ret_bool (by rw [HZF.out]), by have := HBW.out; rwa [HW.out] at this⟩
    have e3 : (bits .andNot .i64 f 63 == 0) = true := by rw [HA.out, decide_eq_true hfl]
    rw [decide_eq_true hfl] at HZ
    clear hfl HA
    by_cases hp : p = 0
    case neg =>
      have e1 : (p == 0) = false := beq_false_of_ne hp
      have hz1 : (p == 0 && np == 0) = false := by rw [e1]; rfl
      rw [hz1] at HZ
      clear hp hz1
      by_cases hg : g = 0
      case neg =>
        have e2 : (g == 0) = false := beq_false_of_ne hg
        have hz2 : (g == 0 && nf == 0) = false := by rw [e2]; rfl
        rw [hz2] at HZ
        clear hg hz2
        have HZ2 := Lib.hid HZ.out
        go_enter Try.func57, Try.ntmps57
        go_wp2_with fail
        rw [← HG.out, ← HW.out]
        refine (hasP_raw _ _ _ _ _ _ _ _ _ _ W).mono ?_
        rintro e w2 ⟨rfl, hb2⟩
        have HB2 := Lib.hid (HBW.out.trans (hb2.mono HBW.out.size))
        have HX2 := Lib.hid (HBX.out.keep hb2)
        clear hb2
        generalize hasPr _ np = zp at HZ2 ⊢
        have x0 := HX2.out.c0
        have x1 := HX2.out.c1
        have x2 := HX2.out.c2
        have x3 := HX2.out.c3
        have x4 := HX2.out.c4
        have x5 := HX2.out.c5
        cases zp with
        | false =>
          have hzf : z = false := by rw [HZ2.out]; rfl
          go_wp2
          go_ret
          exact ⟨ret_bool (by rw [hzf]), HB2.out⟩
        | true =>
          go_wp2_with fail
          refine (hasF_raw _ _ _ _ _ _ _ _ _ _ w2).mono ?_
          rintro e w3 ⟨rfl, hb3⟩
          have HB3 := Lib.hid (HB2.out.trans (hb3.mono HB2.out.size))
          have y5 := (HX2.out.keep hb3).c5
          clear hb3
          generalize hasFr _ nf = zh at HZ2 ⊢
          cases zh with
          | false =>
            have hzf : z = false := by rw [HZ2.out]; rfl
            go_wp2
            go_ret
            exact ⟨ret_bool (by rw [hzf]), HB3.out⟩
          | true =>
            by_cases h9 : nf ≤ 9
            · have hzf : z = true := by rw [HZ2.out, decide_eq_true h9]; rfl
              have h9' : (nf : Int) ≤ 9 := by omega
              go_wp2
              go_ret
              exact ⟨ret_bool (by rw [hzf]), HB3.out⟩
            · have hzf : z = false := by rw [HZ2.out, decide_eq_false h9]; rfl
              have h9' : ¬ (nf : Int) ≤ 9 := by omega
              go_wp2
              go_ret
              exact ⟨ret_bool (by rw [hzf]; exact decide_eq_false (by omega)), HB3.out⟩
      subst hg
      by_cases hm : nf = 0
      case neg =>
        have e2 : ((nf : Int) == 0) = false := beq_false_of_ne (by omega)
        have hz2 : ((0 : Int) == 0 && nf == 0) = false := by rw [beq_false_of_ne hm]; rfl
        rw [hz2] at HZ
        clear hm hz2
        have HZ2 := Lib.hid HZ.out
        go_enter Try.func57, Try.ntmps57
        go_wp2_with fail
        rw [← HG.out, ← HW.out]
        refine (hasP_raw _ _ _ _ _ _ _ _ _ _ W).mono ?_
        rintro e w2 ⟨rfl, hb2⟩
        have HB2 := Lib.hid (HBW.out.trans (hb2.mono HBW.out.size))
        have HX2 := Lib.hid (HBX.out.keep hb2)
        clear hb2
        generalize hasPr _ np = zp at HZ2 ⊢
        have x0 := HX2.out.c0
        have x1 := HX2.out.c1
        have x2 := HX2.out.c2
        have x3 := HX2.out.c3
        have x4 := HX2.out.c4
        have x5 := HX2.out.c5
        cases zp with
        | false =>
          have hzf : z = false := by rw [HZ2.out]; rfl
          go_wp2
          go_ret
          exact ⟨ret_bool (by rw [hzf]), HB2.out⟩
        | true =>
          go_wp2_with fail
          refine (hasF_raw _ _ _ _ _ _ _ _ _ _ w2).mono ?_
          rintro e w3 ⟨rfl, hb3⟩
          have HB3 := Lib.hid (HB2.out.trans (hb3.mono HB2.out.size))
          have y5 := (HX2.out.keep hb3).c5
          clear hb3
          generalize hasFr _ nf = zh at HZ2 ⊢
          cases zh with
          | false =>
            have hzf : z = false := by rw [HZ2.out]; rfl
            go_wp2
            go_ret
            exact ⟨ret_bool (by rw [hzf]), HB3.out⟩
          | true =>
            by_cases h9 : nf ≤ 9
            · have hzf : z = true := by rw [HZ2.out, decide_eq_true h9]; rfl
              have h9' : (nf : Int) ≤ 9 := by omega
              go_wp2
              go_ret
              exact ⟨ret_bool (by rw [hzf]), HB3.out⟩
            · have hzf : z = false := by rw [HZ2.out, decide_eq_false h9]; rfl
              have h9' : ¬ (nf : Int) ≤ 9 := by omega
              go_wp2
              go_ret
              exact ⟨ret_bool (by rw [hzf]; exact decide_eq_false (by omega)), HB3.out⟩
      subst hm
      have hz2 : ((0 : Int) == 0 && (0 : Nat) == 0) = true := rfl
      rw [hz2] at HZ
      clear hz2
      have HZ2 := Lib.hid HZ.out
      go_enter Try.func57, Try.ntmps57
      go_wp2_with fail
      rw [← HG.out, ← HW.out]
      refine (hasP_raw _ _ _ _ _ _ _ _ _ _ W).mono ?_
      rintro e w2 ⟨rfl, hb2⟩
      have HB2 := Lib.hid (HBW.out.trans (hb2.mono HBW.out.size))
      have HX2 := Lib.hid (HBX.out.keep hb2)
      clear hb2
      generalize hasPr _ np = zp at HZ2 ⊢
      have x0 := HX2.out.c0
      have x1 := HX2.out.c1
      have x2 := HX2.out.c2
      have x3 := HX2.out.c3
      have x4 := HX2.out.c4
      have x5 := HX2.out.c5
      cases zp with
      | false =>
        have hzf : z = false := by rw [HZ2.out]; rfl
        go_wp2
        go_ret
        exact ⟨ret_bool (by rw [hzf]), HB2.out⟩
      | true =>
        go_wp2
        go_ret
        exact ⟨ret_bool (by rw [HZ2.out]; rfl), HB2.out⟩
    subst hp
    by_cases hn : np = 0
    case neg =>
      have e1 : ((np : Int) == 0) = false := beq_false_of_ne (by omega)
      have hz1 : ((0 : Int) == 0 && np == 0) = false := by rw [beq_false_of_ne hn]; rfl
      rw [hz1] at HZ
      clear hn hz1
      by_cases hg : g = 0
      case neg =>
        have e2 : (g == 0) = false := beq_false_of_ne hg
        have hz2 : (g == 0 && nf == 0) = false := by rw [e2]; rfl
        rw [hz2] at HZ
        clear hg hz2
        have HZ2 := Lib.hid HZ.out
        go_enter Try.func57, Try.ntmps57
        go_wp2_with fail
        rw [← HG.out, ← HW.out]
        refine (hasP_raw _ _ _ _ _ _ _ _ _ _ W).mono ?_
        rintro e w2 ⟨rfl, hb2⟩
        have HB2 := Lib.hid (HBW.out.trans (hb2.mono HBW.out.size))
        have HX2 := Lib.hid (HBX.out.keep hb2)
        clear hb2
        generalize hasPr _ np = zp at HZ2 ⊢
        have x0 := HX2.out.c0
        have x1 := HX2.out.c1
        have x2 := HX2.out.c2
        have x3 := HX2.out.c3
        have x4 := HX2.out.c4
        have x5 := HX2.out.c5
        cases zp with
        | false =>
          have hzf : z = false := by rw [HZ2.out]; rfl
          go_wp2
          go_ret
          exact ⟨ret_bool (by rw [hzf]), HB2.out⟩
        | true =>
          go_wp2_with fail
          refine (hasF_raw _ _ _ _ _ _ _ _ _ _ w2).mono ?_
          rintro e w3 ⟨rfl, hb3⟩
          have HB3 := Lib.hid (HB2.out.trans (hb3.mono HB2.out.size))
          have y5 := (HX2.out.keep hb3).c5
          clear hb3
          generalize hasFr _ nf = zh at HZ2 ⊢
          cases zh with
          | false =>
            have hzf : z = false := by rw [HZ2.out]; rfl
            go_wp2
            go_ret
            exact ⟨ret_bool (by rw [hzf]), HB3.out⟩
          | true =>
            by_cases h9 : nf ≤ 9
            · have hzf : z = true := by rw [HZ2.out, decide_eq_true h9]; rfl
              have h9' : (nf : Int) ≤ 9 := by omega
              go_wp2
              go_ret
              exact ⟨ret_bool (by rw [hzf]), HB3.out⟩
            · have hzf : z = false := by rw [HZ2.out, decide_eq_false h9]; rfl
              have h9' : ¬ (nf : Int) ≤ 9 := by omega
              go_wp2
              go_ret
              exact ⟨ret_bool (by rw [hzf]; exact decide_eq_false (by omega)), HB3.out⟩
      subst hg
      by_cases hm : nf = 0
      case neg =>
        have e2 : ((nf : Int) == 0) = false := beq_false_of_ne (by omega)
        have hz2 : ((0 : Int) == 0 && nf == 0) = false := by rw [beq_false_of_ne hm]; rfl
        rw [hz2] at HZ
        clear hm hz2
        have HZ2 := Lib.hid HZ.out
        go_enter Try.func57, Try.ntmps57
        go_wp2_with fail
        rw [← HG.out, ← HW.out]
        refine (hasP_raw _ _ _ _ _ _ _ _ _ _ W).mono ?_
        rintro e w2 ⟨rfl, hb2⟩
        have HB2 := Lib.hid (HBW.out.trans (hb2.mono HBW.out.size))
        have HX2 := Lib.hid (HBX.out.keep hb2)
        clear hb2
        generalize hasPr _ np = zp at HZ2 ⊢
        have x0 := HX2.out.c0
        have x1 := HX2.out.c1
        have x2 := HX2.out.c2
        have x3 := HX2.out.c3
        have x4 := HX2.out.c4
        have x5 := HX2.out.c5
        cases zp with
        | false =>
          have hzf : z = false := by rw [HZ2.out]; rfl
          go_wp2
          go_ret
          exact ⟨ret_bool (by rw [hzf]), HB2.out⟩
        | true =>
          go_wp2_with fail
          refine (hasF_raw _ _ _ _ _ _ _ _ _ _ w2).mono ?_
          rintro e w3 ⟨rfl, hb3⟩
          have HB3 := Lib.hid (HB2.out.trans (hb3.mono HB2.out.size))
          have y5 := (HX2.out.keep hb3).c5
          clear hb3
          generalize hasFr _ nf = zh at HZ2 ⊢
          cases zh with
          | false =>
            have hzf : z = false := by rw [HZ2.out]; rfl
            go_wp2
            go_ret
            exact ⟨ret_bool (by rw [hzf]), HB3.out⟩
          | true =>
            by_cases h9 : nf ≤ 9
            · have hzf : z = true := by rw [HZ2.out, decide_eq_true h9]; rfl
              have h9' : (nf : Int) ≤ 9 := by omega
              go_wp2
              go_ret
              exact ⟨ret_bool (by rw [hzf]), HB3.out⟩
            · have hzf : z = false := by rw [HZ2.out, decide_eq_false h9]; rfl
              have h9' : ¬ (nf : Int) ≤ 9 := by omega
              go_wp2
              go_ret
              exact ⟨ret_bool (by rw [hzf]; exact decide_eq_false (by omega)), HB3.out⟩
      subst hm
      have hz2 : ((0 : Int) == 0 && (0 : Nat) == 0) = true := rfl
      rw [hz2] at HZ
      clear hz2
      have HZ2 := Lib.hid HZ.out
      go_enter Try.func57, Try.ntmps57
      go_wp2_with fail
      rw [← HG.out, ← HW.out]
      refine (hasP_raw _ _ _ _ _ _ _ _ _ _ W).mono ?_
      rintro e w2 ⟨rfl, hb2⟩
      have HB2 := Lib.hid (HBW.out.trans (hb2.mono HBW.out.size))
      have HX2 := Lib.hid (HBX.out.keep hb2)
      clear hb2
      generalize hasPr _ np = zp at HZ2 ⊢
      have x0 := HX2.out.c0
      have x1 := HX2.out.c1
      have x2 := HX2.out.c2
      have x3 := HX2.out.c3
      have x4 := HX2.out.c4
      have x5 := HX2.out.c5
      cases zp with
      | false =>
        have hzf : z = false := by rw [HZ2.out]; rfl
        go_wp2
        go_ret
        exact ⟨ret_bool (by rw [hzf]), HB2.out⟩
      | true =>
        go_wp2
        go_ret
        exact ⟨ret_bool (by rw [HZ2.out]; rfl), HB2.out⟩
    subst hn
    have hz1 : ((0 : Int) == 0 && (0 : Nat) == 0) = true := rfl
    rw [hz1] at HZ
    clear hz1
    by_cases hg : g = 0
    case neg =>
      have e2 : (g == 0) = false := beq_false_of_ne hg
      have hz2 : (g == 0 && nf == 0) = false := by rw [e2]; rfl
      rw [hz2] at HZ
      clear hg hz2
      have HZ2 := Lib.hid HZ.out
      go_enter Try.func57, Try.ntmps57
      go_wp2_with fail
      rw [← HG.out, ← HW.out]
      refine (hasF_raw _ _ _ _ _ _ _ _ _ _ W).mono ?_
      rintro e w3 ⟨rfl, hb3⟩
      have HB3 := Lib.hid (HBW.out.trans (hb3.mono HBW.out.size))
      have y5 := (HBX.out.keep hb3).c5
      clear hb3
      generalize hasFr _ nf = zh at HZ2 ⊢
      cases zh with
      | false =>
        have hzf : z = false := by rw [HZ2.out]; rfl
        go_wp2
        go_ret
        exact ⟨ret_bool (by rw [hzf]), HB3.out⟩
      | true =>
        by_cases h9 : nf ≤ 9
        · have hzf : z = true := by rw [HZ2.out, decide_eq_true h9]; rfl
          have h9' : (nf : Int) ≤ 9 := by omega
          go_wp2
          go_ret
          exact ⟨ret_bool (by rw [hzf]), HB3.out⟩
        · have hzf : z = false := by rw [HZ2.out, decide_eq_false h9]; rfl
          have h9' : ¬ (nf : Int) ≤ 9 := by omega
          go_wp2
          go_ret
          exact ⟨ret_bool (by rw [hzf]; exact decide_eq_false (by omega)), HB3.out⟩
    subst hg
    by_cases hm : nf = 0
    case neg =>
      have e2 : ((nf : Int) == 0) = false := beq_false_of_ne (by omega)
      have hz2 : ((0 : Int) == 0 && nf == 0) = false := by rw [beq_false_of_ne hm]; rfl
      rw [hz2] at HZ
      clear hm hz2
      have HZ2 := Lib.hid HZ.out
      go_enter Try.func57, Try.ntmps57
      go_wp2_with fail
      rw [← HG.out, ← HW.out]
      refine (hasF_raw _ _ _ _ _ _ _ _ _ _ W).mono ?_
      rintro e w3 ⟨rfl, hb3⟩
      have HB3 := Lib.hid (HBW.out.trans (hb3.mono HBW.out.size))
      have y5 := (HBX.out.keep hb3).c5
      clear hb3
      generalize hasFr _ nf = zh at HZ2 ⊢
      cases zh with
      | false =>
        have hzf : z = false := by rw [HZ2.out]; rfl
        go_wp2
        go_ret
        exact ⟨ret_bool (by rw [hzf]), HB3.out⟩
      | true =>
        by_cases h9 : nf ≤ 9
        · have hzf : z = true := by rw [HZ2.out, decide_eq_true h9]; rfl
          have h9' : (nf : Int) ≤ 9 := by omega
          go_wp2
          go_ret
          exact ⟨ret_bool (by rw [hzf]), HB3.out⟩
        · have hzf : z = false := by rw [HZ2.out, decide_eq_false h9]; rfl
          have h9' : ¬ (nf : Int) ≤ 9 := by omega
          go_wp2
          go_ret
          exact ⟨ret_bool (by rw [hzf]; exact decide_eq_false (by omega)), HB3.out⟩
    subst hm
    have hz2 : ((0 : Int) == 0 && (0 : Nat) == 0) = true := rfl
    rw [hz2] at HZ
    clear hz2
    have HZ2 := Lib.hid HZ.out
    go_enter Try.func57, Try.ntmps57
    go_wp2
    go_ret
    exact ⟨ret_bool (by rw [HZ2.out]; rfl), by have := HBW.out; rwa [HW.out] at this⟩
end Go.Proofs.Ytgjkobkcmgliaaa
namespace Go.Proofs.Ytgjkobkcmgliaaa
open Go.RowKit

set_option maxRecDepth 100000 in
set_option maxHeartbeats 8000000 in
theorem fails_clo {N : Nat → Prop} {S : World → World → Prop} {k : Nat} {lb : Array Value} {z : Bool} (x : Ty) (vx : Value) (w : World) (c : Nat) (eg : ∀ (args : Array Value) (w : World), (callFunc k args).run Try.prog w = .ok (.enter k args) w)
    (h1 : VarIs w c 47 (.func (.func k) #[] lb)) (hx : TyVN N w vx x)
    (hcall : ∀ w1, Below w.heap.size w w1 → TyVN N w1 vx x → Calls Try.prog k (#[vx] ++ lb) w1 fun e w' => e = .returned (.bool z) ∧ S w w') :
    Calls Try.prog 74 #[vx, .pointer (some ⟨c, 0, none⟩)] w fun e w' => e = .returned (.bool (!z)) ∧ S w w' := by
  have hcc : ∀ w1, Below w.heap.size w w1 → Calls Try.prog k (#[vx] ++ lb) w1 fun e w' => e = .returned (.bool z) ∧ S w w' := fun w1 hb => hcall w1 hb (hx.below hb)
  obtain ⟨xpa, xpc, xfa, xfc, rfl, xhp, xhf⟩ := hx.form
  obtain ⟨xnp, xhnp⟩ : ∃ n, n = x.pairs.length := ⟨_, rfl⟩
  obtain ⟨xnf, xhnf⟩ : ∃ n, n = x.funs.length := ⟨_, rfl⟩
  obtain ⟨xa, xha⟩ : ∃ a, a = x.all := ⟨_, rfl⟩
  obtain ⟨xf, xhf'⟩ : ∃ a, a = x.flat := ⟨_, rfl⟩
  obtain ⟨xp, xhp'⟩ : ∃ a, a = x.pair := ⟨_, rfl⟩
  obtain ⟨xn, xhn⟩ : ∃ a, a = x.fn := ⟨_, rfl⟩
  rw [← xhnp, ← xhnf, ← xha, ← xhf', ← xhp', ← xhn] at hcc ⊢
  obtain ⟨W, hW⟩ : ∃ W, W = w.alloc (.cells #[.bool xa, .int .i64 xf, .int .i64 xp, (.slice xpa xnp xpc), .int .i64 xn, (.slice xfa xnf xfc)] 49) := ⟨_, rfl⟩
  have HBW := Lib.hid (show Below w.heap.size w W by rw [hW]; exact (Below.refl _ _).alloc (Nat.le_refl _) _)
  have k1 := (h1.keep HBW.out).c
  rw [hW] at k1
  have HC := Lib.hid (hcc W HBW.out)
  have HW := Lib.hid hW
  clear hcall hcc hW h1 hx xhp xhf xhnp xhnf xha xhf' xhp' xhn
  go_enter Try.func74, Try.ntmps74
  go_wp2_with fail
  rw [← HW.out]
  refine HC.out.mono ?_
  rintro e w2 ⟨rfl, hb2⟩
  go_wp2
  go_ret
  exact ⟨rfl, hb2⟩

set_option maxRecDepth 100000 in
set_option maxHeartbeats 8000000 in
theorem holds_any {N : Nat → Prop} {St : Nat → World → Prop} {k : Nat} {lb : Array Value} {W0 : World} {R : Ty → Prop} {P : Ty → Bool} {cost : Ty → Nat} {lim : Nat} (F : Fn1 N St k lb W0 R P cost lim)
    (x : Ty) (vx : Value) (w : World) (n : Nat) (hNw : ∀ b, N b → b < w.heap.size) (hw : Stay N W0 w) (hst : St n w) (hx : TyVN N w vx x)
    (hRp : ∀ j, j < x.pairs.length → R (x.pairs.getD j ty0)) (hRf : ∀ j, j < x.funs.length → R (x.funs.getD j ty0)) (hc : n + preD cost x.pairs x.pairs.length + preD cost x.funs x.funs.length ≤ lim) :
    Calls Try.prog 58 #[vx, .func (.func k) #[] lb] w
      fun e w' => e = .returned (.bool (x.pairs.all P && x.funs.all P)) ∧ Stay N w w' ∧ ∃ n', n' ≤ n + preD cost x.pairs x.pairs.length + preD cost x.funs x.funs.length ∧ St n' w' := by
  have hmf : ∀ (fn : Fn) (first cap : Array Value) (w : World), (Instr.makeFunc fn first cap).run Try.prog w = .ok (.func fn first cap) w := fun _ _ _ _ => rfl
  have hkeep := F.keep
  have hF1 : ∀ (w1 : World) (c : Nat), Stay N w w1 → ¬ N c → VarIs w1 c 47 (.func (.func k) #[] lb) → Fn1 N St 74 #[.pointer (some ⟨c, 0, none⟩)] w1 R (fun x => !P x) cost lim := fun w1 c h1 hcN hv => by
    refine ⟨F.keep, fun _ _ => rfl, ?_⟩
    intro w2 v1 x' n' hs hs2 hlim hR h1'
    refine fails_clo (S := fun a b => Stay N a b ∧ ∃ n1, n1 ≤ n' + cost x' ∧ St n1 b) x' v1 w2 c F.enter (hv.stay hs hcN) h1' fun w3 hb h3 => ?_
    refine (F.call w3 v1 x' n' ((hw.trans (h1.trans hs)).then hb) (F.keep _ _ _ hs2 hb) hlim hR h3).mono ?_
    rintro e w4 ⟨he, h4, h5⟩
    exact ⟨he, (Stay.of hb).trans h4, h5⟩
  have hnall : ∀ l : List Ty, (!(l.any fun x => !P x)) = l.all P := fun l => by
    induction l with
    | nil => rfl
    | cons a r ih => simp only [List.any_cons, List.all_cons, ← ih]; cases P a <;> simp
  obtain ⟨xpa, xpc, xfa, xfc, rfl, xhp, xhf⟩ := hx.form
  obtain ⟨xnp, xhnp⟩ : ∃ n, n = x.pairs.length := ⟨_, rfl⟩
  obtain ⟨xnf, xhnf⟩ : ∃ n, n = x.funs.length := ⟨_, rfl⟩
  obtain ⟨xa, xha⟩ : ∃ a, a = x.all := ⟨_, rfl⟩
  obtain ⟨xf, xhf'⟩ : ∃ a, a = x.flat := ⟨_, rfl⟩
  obtain ⟨xp, xhp'⟩ : ∃ a, a = x.pair := ⟨_, rfl⟩
  obtain ⟨xn, xhn⟩ : ∃ a, a = x.fn := ⟨_, rfl⟩
  have hP : ∀ (w1 : World) (c : Nat), Stay N w w1 → ¬ N c → VarIs w1 c 47 (.func (.func k) #[] lb) → St n w1 → Calls Try.prog 75 #[.slice xpa x.pairs.length xpc, .func (.func 74) #[] #[.pointer (some ⟨c, 0, none⟩)]] w1
      fun e w' => e = .returned (.bool (x.pairs.any fun x => !P x)) ∧ Stay N w1 w' ∧ ∃ n', n' ≤ n + preD cost x.pairs x.pairs.length ∧ St n' w' := fun w1 c h1 hcN hv h2 =>
    containsf_any (hF1 w1 c h1 hcN hv) x.pairs _ _ w1 n .refl h2 (TySN.stay xhp h1) hRp (by omega)
  have hQ : ∀ (w1 : World) (c n1 : Nat), Stay N w w1 → ¬ N c → VarIs w1 c 47 (.func (.func k) #[] lb) → n1 ≤ n + preD cost x.pairs x.pairs.length → St n1 w1 → Calls Try.prog 75 #[.slice xfa x.funs.length xfc, .func (.func 74) #[] #[.pointer (some ⟨c, 0, none⟩)]] w1
      fun e w' => e = .returned (.bool (x.funs.any fun x => !P x)) ∧ Stay N w1 w' ∧ ∃ n', n' ≤ n1 + preD cost x.funs x.funs.length ∧ St n' w' := fun w1 c n1 h1 hcN hv hn1 h2 =>
    containsf_any (hF1 w1 c h1 hcN hv) x.funs _ _ w1 n1 .refl h2 (TySN.stay xhf h1) hRf (by omega)
  have hz1 := hnall x.pairs
  have hz2 := hnall x.funs
  generalize preD cost x.pairs x.pairs.length = c1 at hP hQ hc ⊢
  generalize preD cost x.funs x.funs.length = c2 at hQ hc ⊢
  generalize x.pairs.all P = z1 at hz1 ⊢
  generalize x.funs.all P = z2 at hz2 ⊢
  generalize (x.pairs.any fun x => !P x) = y1 at hP hz1
  generalize (x.funs.any fun x => !P x) = y2 at hQ hz2
  rw [← xhnp] at hP
  rw [← xhnf] at hQ
  rw [← xhnp, ← xhnf, ← xha, ← xhf', ← xhp', ← xhn]
  obtain ⟨g, hg⟩ : ∃ g, g = w.heap.size := ⟨_, rfl⟩
  obtain ⟨W, hW⟩ : ∃ W, W = (w.alloc (.cells #[.bool xa, .int .i64 xf, .int .i64 xp, (.slice xpa xnp xpc), .int .i64 xn, (.slice xfa xnf xfc)] 49)).alloc (.cells #[.func (.func k) #[] lb] 47) := ⟨_, rfl⟩
  have HBW := Lib.hid (show Below w.heap.size w W by rw [hW]; exact ((Below.refl _ _).alloc (Nat.le_refl _) _).alloc (by simp) _)
  have HBX := Lib.hid (show BoxAt W g xa xf xp (.slice xpa xnp xpc) xn (.slice xfa xnf xfc) by rw [hW, hg]; exact (BoxAt.made _ _ _ _ _ _ _).keep ((Below.refl _ _).alloc (Nat.le_refl _) _))
  have hV : VarIs W (g + 1) 47 (.func (.func k) #[] lb) := by rw [hW, hg]; have := VarIs.made (w.alloc (.cells #[.bool xa, .int .i64 xf, .int .i64 xp, (.slice xpa xnp xpc), .int .i64 xn, (.slice xfa xnf xfc)] 49)) 47 (.func (.func k) #[] lb); simp only [alloc_hs] at this; exact this
  have hn1 : ¬ N (g + 1) := fun h => by have := hNw _ h; omega
  have hn0 : ¬ N g := fun h => by have := hNw _ h; omega
  have HP := Lib.hid (hP W (g + 1) (.of HBW.out) hn1 hV (hkeep _ _ _ hst HBW.out))
  have HQ := Lib.hid (fun w2 n2 h1 (h3 : Stay N W w2) h4 h5 => hQ w2 (g + 1) n2 h1 hn1 (hV.stay h3 hn1) h4 h5)
  have HN0 := Lib.hid hn0
  have HZ1 := Lib.hid hz1
  have HZ2 := Lib.hid hz2
  have HW := Lib.hid hW
  have HG := Lib.hid hg
  clear hP hQ hz1 hz2 hW hg hV hn1 hn0 hF1 hnall hkeep hst hw hNw hRp hRf hc hx F xhp xhf xhnp xhnf xha xhf' xhp' xhn
  go_enter Try.func58, Try.ntmps58
  go_wp2_with fail
  rw [← HG.out, ← HW.out]
  refine HP.out.mono ?_
  rintro e w2 ⟨rfl, hs2, n2, hn2, ht2⟩
  have HS2 := Lib.hid ((Stay.of HBW.out).trans hs2)
  have HX2 := Lib.hid (HBX.out.stay hs2 HN0.out)
  have HQ2 := Lib.hid (HQ.out w2 n2 HS2.out hs2 hn2 ht2)
  have HN2 := Lib.hid hn2
  have HT2 := Lib.hid ht2
  clear hs2 hn2 ht2
  cases y1 with
  | true =>
    go_wp2
    go_ret
    exact ⟨ret_bool (by rw [← HZ1.out]; rfl), HS2.out, n2, by have := HN2.out; omega, HT2.out⟩
  | false =>
    have x0 := HX2.out.c0
    have x1 := HX2.out.c1
    have x2 := HX2.out.c2
    have x3 := HX2.out.c3
    have x4 := HX2.out.c4
    have x5 := HX2.out.c5
    go_wp2_with fail
    refine HQ2.out.mono ?_
    rintro e w3 ⟨rfl, hs3, n3, hn3, ht3⟩
    have HS3 := Lib.hid (HS2.out.trans hs3)
    have HN3 := Lib.hid hn3
    have HT3 := Lib.hid ht3
    clear hs3 hn3 ht3
    go_wp2
    go_ret
    exact ⟨ret_bool (by rw [← HZ1.out, ← HZ2.out]; rfl), HS3.out, n3, by have := HN2.out; have := HN3.out; omega, HT3.out⟩
end Go.Proofs.Ytgjkobkcmgliaaa
namespace Go.Proofs.Ytgjkobkcmgliaaa
open Go.RowKit

/-- the flat tags of a type, and of all that is in it, are of 64 bits -/
inductive RngT : Ty → Prop
  | mk (t : Ty) : (-9223372036854775808 ≤ t.flat ∧ t.flat ≤ 9223372036854775807) → (∀ x ∈ t.pairs, RngT x) → (∀ x ∈ t.funs, RngT x) → RngT t
theorem RngT.flat {t : Ty} (h : RngT t) : -9223372036854775808 ≤ t.flat ∧ t.flat ≤ 9223372036854775807 := by cases h; assumption
theorem RngT.pair {t : Ty} (h : RngT t) {x : Ty} (hx : x ∈ t.pairs) : RngT x := by cases h with | mk _ h1 h2 h3 => exact h2 x hx
theorem RngT.fun {t : Ty} (h : RngT t) {x : Ty} (hx : x ∈ t.funs) : RngT x := by cases h with | mk _ h1 h2 h3 => exact h3 x hx
theorem okTy.rng (t : Ty) (h : okTy t) : RngT t := by
  induction t using ty_ind with
  | h t ihp ihf =>
    have hh := headP h
    exact .mk t ⟨by omega, by omega⟩ (fun x hx => ihp x hx (h.pair hx)) (fun x hx => ihf x hx (h.fun hx))
theorem preD_le (l : List Ty) : ∀ k, k ≤ l.length → preD szT l k ≤ szTs l := by
  have key : ∀ k, k ≤ l.length → preD szT l k + szTs (l.drop k) = szTs l := by
    intro k
    induction k with
    | zero => intro _; rw [preD]; simp
    | succ k ih =>
      intro h
      have h1 := ih (by omega)
      have h2 : l.drop k = l.getD k ty0 :: l.drop (k + 1) := by rw [List.drop_eq_getElem_cons (by omega), List.getD_eq_getElem?_getD, List.getElem?_eq_getElem (by omega)]; rfl
      rw [h2, szTs] at h1
      rw [preD]; omega
  intro k hk; have := key k hk; omega
theorem sumS_exact (n : Nat) (ih : ∀ t : Ty, sizeS n t < 1000 → sizeS n t = szT t) : ∀ (l : List Ty) (a : Nat), sumS n a l < 1000 → sumS n a l = a + szTs l
  | [], a, _ => by rw [sumS_nil, szTs]; omega
  | d :: r, a, h => by
    rw [sumS_cons] at h ⊢
    by_cases ha : a < 1000
    · rw [if_pos ha] at h ⊢
      have h1 := sumS_exact n ih r _ h
      have h2 : sizeS n d < 1000 := by omega
      rw [h1, ih d h2, szTs]; omega
    · rw [if_neg ha] at h
      have := sumS_stop n r a (by omega)
      omega
theorem sizeS_exact : ∀ (n : Nat) (t : Ty), sizeS n t < 1000 → sizeS n t = szT t
  | 0, t, h => absurd h (by show ¬ (1000 < 1000); omega)
  | n + 1, t, h => by
    rw [sizeS_succ] at h ⊢
    have h1 : sumS n (sumS n 1 t.pairs) t.funs < 1000 := by omega
    have h2 := sumS_exact n (sizeS_exact n) _ _ h1
    have h3 : sumS n 1 t.pairs < 1000 := by omega
    have h4 := sumS_exact n (sizeS_exact n) _ _ h3
    have h5 := szT_eq t
    omega
theorem light_sz {t : Ty} (h : lightT t = true) : szT t < 120 := by
  have h1 : sizeS 60 t < 120 := of_decide_eq_true h
  rw [← sizeS_exact 60 t (by omega)]; exact h1
theorem light_right {t : Ty} (h : lightT t = true) : rightT t = deepF 20 t := by
  have h1 : sizeS 60 t < 120 := of_decide_eq_true h
  unfold rightT
  rw [decide_eq_true (by omega)]
  rfl

/-- what has been counted, and the function that counts -/
def CountAt (c r : Nat) (n : Nat) (w : World) : Prop := VarIs w c 3 (.int .i64 n) ∧ VarIs w r 63 (.func (.func 56) #[] #[.pointer (some ⟨c, 0, none⟩), .pointer (some ⟨r, 0, none⟩)])
theorem CountAt.keep {c r n : Nat} {w w' : World} (h : CountAt c r n w) (hb : Below w.heap.size w w') : CountAt c r n w' := ⟨h.1.keep hb, h.2.keep hb⟩

set_option maxRecDepth 100000 in
set_option maxHeartbeats 8000000 in
theorem right_clo {S : World → Prop} {z : Bool} (x : Ty) (vx : Value) (w : World) (c r d n g : Nat) (hd : d ≤ 21) (hcr : CountAt c r n w) (h2 : VarIs w g 3 (.int .i64 d)) (hx : TyVN (· = c) w vx x)
    (hcall : ∀ w1, Below w.heap.size w w1 → TyVN (· = c) w1 vx x → Calls Try.prog 56 #[vx, .int .i64 ((d : Int) + 1), .pointer (some ⟨c, 0, none⟩), .pointer (some ⟨r, 0, none⟩)] w1 fun e w' => e = .returned (.bool z) ∧ S w') :
    Calls Try.prog 59 #[vx, .pointer (some ⟨r, 0, none⟩), .pointer (some ⟨g, 0, none⟩)] w fun e w' => e = .returned (.bool z) ∧ S w' := by
  have eg : ∀ (args : Array Value) (w : World), (callFunc 56 args).run Try.prog w = .ok (.enter 56 args) w := fun _ _ => rfl
  have hcc : ∀ w1, Below w.heap.size w w1 → Calls Try.prog 56 #[vx, .int .i64 ((d : Int) + 1), .pointer (some ⟨c, 0, none⟩), .pointer (some ⟨r, 0, none⟩)] w1 fun e w' => e = .returned (.bool z) ∧ S w' := fun w1 hb => hcall w1 hb (hx.below hb)
  obtain ⟨xpa, xpc, xfa, xfc, rfl, xhp, xhf⟩ := hx.form
  obtain ⟨xnp, xhnp⟩ : ∃ n, n = x.pairs.length := ⟨_, rfl⟩
  obtain ⟨xnf, xhnf⟩ : ∃ n, n = x.funs.length := ⟨_, rfl⟩
  obtain ⟨xa, xha⟩ : ∃ a, a = x.all := ⟨_, rfl⟩
  obtain ⟨xf, xhf'⟩ : ∃ a, a = x.flat := ⟨_, rfl⟩
  obtain ⟨xp, xhp'⟩ : ∃ a, a = x.pair := ⟨_, rfl⟩
  obtain ⟨xn, xhn⟩ : ∃ a, a = x.fn := ⟨_, rfl⟩
  rw [← xhnp, ← xhnf, ← xha, ← xhf', ← xhp', ← xhn] at hcc ⊢
  obtain ⟨W, hW⟩ : ∃ W, W = w.alloc (.cells #[.bool xa, .int .i64 xf, .int .i64 xp, (.slice xpa xnp xpc), .int .i64 xn, (.slice xfa xnf xfc)] 49) := ⟨_, rfl⟩
  have HBW := Lib.hid (show Below w.heap.size w W by rw [hW]; exact (Below.refl _ _).alloc (Nat.le_refl _) _)
  have k1 := (hcr.2.keep HBW.out).c
  have k2 := (h2.keep HBW.out).c
  rw [hW] at k1 k2
  have HC := Lib.hid (hcc W HBW.out)
  have HW := Lib.hid hW
  have hd2 : (d : Int) ≤ 21 := by omega
  clear hcall hcc hW hcr h2 hx hd xhp xhf xhnp xhnf xha xhf' xhp' xhn
  go_enter Try.func59, Try.ntmps59
  go_wp2_with fail
  rw [← HW.out]
  refine HC.out.mono ?_
  rintro e w2 ⟨rfl, hb2⟩
  go_wp2
  go_ret
  exact ⟨rfl, hb2⟩

def RtOK (n : Nat) : Prop := ∀ (x : Ty) (vx : Value) (w : World) (c r k d : Nat), szT x ≤ n → k + szT x ≤ 300 → 1 ≤ d → d ≤ 21 → c ≠ r → RngT x → CountAt c r k w → TyVN (· = c) w vx x →
    Calls Try.prog 56 #[vx, .int .i64 d, .pointer (some ⟨c, 0, none⟩), .pointer (some ⟨r, 0, none⟩)] w fun e w' => e = .returned (.bool (deepF (21 - d) x)) ∧ Stay (· = c) w w' ∧ ∃ k', k' ≤ k + szT x ∧ CountAt c r k' w'

set_option maxRecDepth 100000 in
set_option maxHeartbeats 16000000 in
theorem right_succ (n : Nat) (ih : RtOK n) : RtOK (n + 1) := by
  intro x vx w c r k d hsz hk hd1 hd hcr hrng hw hx
  have hmf : ∀ (fn : Fn) (first cap : Array Value) (w : World), (Instr.makeFunc fn first cap).run Try.prog w = .ok (.func fn first cap) w := fun _ _ _ _ => rfl
  have hclt : c < w.heap.size := VarIs.lt hw.1
  have hrlt : r < w.heap.size := VarIs.lt hw.2
  have hsx := szT_eq x
  have hH : ∀ (w1 : World) (g1 : Nat), d ≤ 20 → Stay (· = c) w w1 → CountAt c r (k + 1) w1 → g1 ≠ c → VarIs w1 g1 3 (.int .i64 d) →
      Calls Try.prog 58 #[vx, .func (.func 59) #[] #[.pointer (some ⟨r, 0, none⟩), .pointer (some ⟨g1, 0, none⟩)]] w1
      fun e w' => e = .returned (.bool (x.pairs.all (deepF (20 - d)) && x.funs.all (deepF (20 - d)))) ∧ Stay (· = c) w1 w' ∧ ∃ k', k' ≤ k + szT x ∧ CountAt c r k' w' := fun w1 g1 hd20 h1 hc n1 hg1 => by
    have F : Fn1 (· = c) (CountAt c r) 59 #[.pointer (some ⟨r, 0, none⟩), .pointer (some ⟨g1, 0, none⟩)] w1 (fun x' => RngT x' ∧ szT x' < szT x) (deepF (20 - d)) szT 300 := by
      refine ⟨fun _ _ _ h hb => h.keep hb, fun _ _ => rfl, ?_⟩
      intro w2 v1 x' n' hs hwk hlim hR h1'
      refine right_clo x' v1 w2 c r d n' g1 hd hwk (hg1.stay hs n1) h1' fun w3 hb h3 => ?_
      refine (ih x' v1 w3 c r n' (d + 1) (by omega) hlim (by omega) (by omega) hcr hR.1 (hwk.keep hb) h3).mono ?_
      rintro e w4 ⟨he, hs4, hk4⟩
      exact ⟨by rw [he, show 21 - (d + 1) = 20 - d by omega], (Stay.of hb).trans hs4, hk4⟩
    have h2 := preD_le x.pairs _ (Nat.le_refl _)
    have h3 := preD_le x.funs _ (Nat.le_refl _)
    refine (holds_any F x vx w1 (k + 1) (fun b hb => by rw [hb]; exact VarIs.lt hc.1) .refl hc (hx.stay h1) (fun j hj => ⟨hrng.pair (getT_mem hj), szT_pair x j hj⟩) (fun j hj => ⟨hrng.fun (getT_mem hj), szT_fun x j hj⟩) (by omega)).mono ?_
    rintro e w3 ⟨he, hs, k', hk', hw'⟩
    exact ⟨he, hs, k', by omega, hw'⟩
  have hres : d ≤ 20 → deepF (21 - d) x = (headOK x && x.pairs.all (deepF (20 - d)) && x.funs.all (deepF (20 - d))) := fun h => by rw [show 21 - d = (20 - d) + 1 by omega, deepF_succ]
  have hres0 : ¬ d ≤ 20 → deepF (21 - d) x = false := fun h => by rw [show 21 - d = 0 by omega]; rfl
  have hfr := fieldsR_head x
  have hrf := hrng.flat
  generalize deepF (21 - d) x = z at hres hres0 ⊢
  generalize headOK x = zh at hres hfr
  generalize x.pairs.all (deepF (20 - d)) = zp at hres hH
  generalize x.funs.all (deepF (20 - d)) = zf at hres hH
  generalize szT x = sx at hH hk hsz hsx ⊢
  obtain ⟨xpa, xpc, xfa, xfc, rfl, xhp, xhf⟩ := hx.form
  obtain ⟨xnp, xhnp⟩ : ∃ n, n = x.pairs.length := ⟨_, rfl⟩
  obtain ⟨xnf, xhnf⟩ : ∃ n, n = x.funs.length := ⟨_, rfl⟩
  obtain ⟨xa, xha⟩ : ∃ a, a = x.all := ⟨_, rfl⟩
  obtain ⟨xf, xhf'⟩ : ∃ a, a = x.flat := ⟨_, rfl⟩
  obtain ⟨xp, xhp'⟩ : ∃ a, a = x.pair := ⟨_, rfl⟩
  obtain ⟨xn, xhn⟩ : ∃ a, a = x.fn := ⟨_, rfl⟩
  rw [← xhnp, ← xhnf, ← xha, ← xhf', ← xhp', ← xhn] at hH hfr
  rw [← xhnp, ← xhnf, ← xha, ← xhf', ← xhp', ← xhn]
  rw [← xhf'] at hrf
  obtain ⟨g, hg⟩ : ∃ g, g = w.heap.size := ⟨_, rfl⟩
  obtain ⟨W0, hW0⟩ : ∃ W0, W0 = (w.alloc (.cells #[.bool xa, .int .i64 xf, .int .i64 xp, (.slice xpa xnp xpc), .int .i64 xn, (.slice xfa xnf xfc)] 49)).alloc (.cells #[.int .i64 (d : Int)] 3) := ⟨_, rfl⟩
  obtain ⟨W, hW⟩ : ∃ W, W = W0.setCell ⟨c, 0, none⟩ (.int .i64 ((k : Int) + 1)) := ⟨_, rfl⟩
  have hb0 : Below w.heap.size w W0 := by rw [hW0]; exact ((Below.refl _ _).alloc (Nat.le_refl _) _).alloc (by simp) _
  have hx0 : BoxAt W0 g xa xf xp (.slice xpa xnp xpc) xn (.slice xfa xnf xfc) := by rw [hW0, hg]; exact (BoxAt.made _ _ _ _ _ _ _).keep ((Below.refl _ _).alloc (Nat.le_refl _) _)
  have hv0 : VarIs W0 (g + 1) 3 (.int .i64 d) := by rw [hW0, hg]; have := VarIs.made (w.alloc (.cells #[.bool xa, .int .i64 xf, .int .i64 xp, (.slice xpa xnp xpc), .int .i64 xn, (.slice xfa xnf xfc)] 49)) 3 (.int .i64 d); simp only [alloc_hs] at this; exact this
  have hc0 := hw.keep hb0
  have HX := Lib.hid (show BoxAt W g xa xf xp (.slice xpa xnp xpc) xn (.slice xfa xnf xfc) by rw [hW]; exact hx0.o (by omega))
  have HV := Lib.hid (show VarIs W (g + 1) 3 (.int .i64 d) by rw [hW]; exact (Below.heap_setCell _ _ _ _ (by show g + 1 ≠ c; omega)).trans hv0)
  have HC := Lib.hid (show CountAt c r (k + 1) W by rw [hW]; exact ⟨by have := hc0.1.set (.int .i64 ((k : Int) + 1)); exact this, (Below.heap_setCell _ _ _ _ (by show r ≠ c; omega)).trans hc0.2⟩)
  have HS := Lib.hid (show Stay (· = c) w W by rw [hW]; exact Stay.set (N := (· = c)) (.of hb0) rfl _)
  have c1 := hc0.1.c
  have c2 := hc0.1.fr 0
  rw [hW0] at c1 c2
  have hk2 : (k : Int) + 1 ≤ 300 := by omega
  have hk3 : decide ((300 : Int) < (k : Int) + 1) = false := decide_eq_false (by omega)
  have HH := Lib.hid (fun h1 h2 w2 (hb : Below W.heap.size W w2) (h3 : Stay (· = c) w w2) (h4 : CountAt c r (k + 1) w2) (h5 : VarIs w2 (g + 1) 3 (.int .i64 d)) => hH w2 (g + 1) h1 h3 h4 h2 h5)
  have HNE := Lib.hid (show g + 1 ≠ c ∧ g ≠ c by omega)
  have HRES := Lib.hid hres
  have HRES0 := Lib.hid hres0
  have HFR := Lib.hid hfr
  have HRF := Lib.hid hrf
  have HG := Lib.hid hg
  have HSX := Lib.hid (show 1 ≤ sx by omega)
  rw [hW0] at hW
  have HW := Lib.hid hW
  clear hH hres hres0 hfr hrf hrng hW hW0 hb0 hx0 hv0 hc0 hsz hk ih hx hclt hrlt hsx hw hg hd hd1 hcr xhp xhf xhnp xhnf xha xhf' xhp' xhn
  by_cases hd20 : d ≤ 20
  case neg =>
    have hz : z = false := HRES0.out hd20
    have HZ := Lib.hid hz
    have hd3 : ((20 : Int) < (d : Int)) := by omega
    have v0 := HV.out.c
    rw [HG.out, HW.out] at v0
    clear hz hd20
    go_enter Try.func56, Try.ntmps56
    go_wp2
    go_ret
    exact ⟨ret_bool (by rw [HZ.out]), by have := HS.out; rwa [HW.out] at this, k + 1, by have := HSX.out; omega, by have := HC.out; rwa [HW.out] at this⟩
  have hz := HRES.out hd20
  have HZ := Lib.hid hz
  have HH2 := Lib.hid (HH.out hd20 HNE.out.1)
  have hd3 : ((d : Int) ≤ 20) := by omega
  clear hz hd20
  have x0 := HX.out.c0
  have x1 := HX.out.c1
  have x2 := HX.out.c2
  have x3 := HX.out.c3
  have x4 := HX.out.c4
  have x5 := HX.out.c5
  have v0 := HV.out.c
  rw [HG.out, HW.out] at v0 x0 x1 x2 x3 x4 x5
  go_enter Try.func56, Try.ntmps56
  go_wp2_with fail
  rw [← HW.out]
  refine (fields_raw _ _ _ _ _ _ _ _ _ _ W HRF.out.1 HRF.out.2).mono ?_
  rintro e w2 ⟨rfl, hb2⟩
  rw [HFR.out, ← HG.out]
  have HS2 := Lib.hid (HS.out.then hb2)
  have HC2 := Lib.hid (HC.out.keep hb2)
  clear v0 x0 x1 x2 x3 x4 x5
  cases zh with
  | false =>
    have HZ2 := Lib.hid (show z = false by rw [HZ.out]; rfl)
    clear hb2
    go_wp2
    go_ret
    exact ⟨ret_bool (by rw [HZ2.out]), HS2.out, k + 1, by have := HSX.out; omega, HC2.out⟩
  | true =>
    have HX2 := Lib.hid (HX.out.keep hb2)
    have HH3 := Lib.hid (HH2.out w2 hb2 HS2.out HC2.out (HV.out.keep hb2))
    clear hb2
    have x0 := HX2.out.c0
    have x1 := HX2.out.c1
    have x2 := HX2.out.c2
    have x3 := HX2.out.c3
    have x4 := HX2.out.c4
    have x5 := HX2.out.c5
    go_wp2_with fail
    refine HH3.out.mono ?_
    rintro e w3 ⟨rfl, hs3, hk3⟩
    go_wp2
    go_ret
    exact ⟨ret_bool (by rw [HZ.out]; cases zp <;> rfl), HS2.out.trans hs3, hk3⟩

theorem rightc_any (x : Ty) (vx : Value) (w : World) (c r k d : Nat) (hk : k + szT x ≤ 300) (hd1 : 1 ≤ d) (hd : d ≤ 21) (hcr : c ≠ r) (hrng : RngT x) (hw : CountAt c r k w) (hx : TyVN (· = c) w vx x) :
    Calls Try.prog 56 #[vx, .int .i64 d, .pointer (some ⟨c, 0, none⟩), .pointer (some ⟨r, 0, none⟩)] w fun e w' => e = .returned (.bool (deepF (21 - d) x)) ∧ Stay (· = c) w w' ∧ ∃ k', k' ≤ k + szT x ∧ CountAt c r k' w' := by
  have key : ∀ n, RtOK n := by
    intro n
    induction n with
    | zero => intro x vx w c r k d h; have := szT_pos x; omega
    | succ n ih => exact right_succ n ih
  exact key _ x vx w c r k d (Nat.le_refl _) hk hd1 hd hcr hrng hw hx

set_option maxRecDepth 100000 in
set_option maxHeartbeats 8000000 in
theorem right_p (x : Ty) (vx : Value) (w : World) (hk : szT x ≤ 300) (hrng : RngT x) (hx : TyV w vx x) :
    Calls Try.prog 30 #[vx] w fun e w' => e = .returned (.bool (deepF 20 x)) ∧ Below w.heap.size w w' := by
  have hmf : ∀ (fn : Fn) (first cap : Array Value) (w : World), (Instr.makeFunc fn first cap).run Try.prog w = .ok (.func fn first cap) w := fun _ _ _ _ => rfl
  have eg : ∀ (args : Array Value) (w : World), (callFunc 56 args).run Try.prog w = .ok (.enter 56 args) w := fun _ _ => rfl
  have hcall : ∀ (w1 : World) (c r : Nat), Below w.heap.size w w1 → w.heap.size ≤ c → c ≠ r → CountAt c r 0 w1 → Calls Try.prog 56 #[vx, .int .i64 1, .pointer (some ⟨c, 0, none⟩), .pointer (some ⟨r, 0, none⟩)] w1
      fun e w' => e = .returned (.bool (deepF 20 x)) ∧ Below w.heap.size w w' := fun w1 c r h1 hc hcr hw => by
    refine (rightc_any x vx w1 c r 0 1 (by omega) (by omega) (by omega) hcr hrng hw (TyVN.later hx.n h1 fun b h => .inr (by omega))).mono ?_
    rintro e w2 ⟨he, hs, _⟩
    exact ⟨he, h1.trans (hs.below h1.size fun k hk => by omega)⟩
  obtain ⟨xpa, xpc, xfa, xfc, rfl, xhp, xhf⟩ := hx.form
  obtain ⟨xnp, xhnp⟩ : ∃ n, n = x.pairs.length := ⟨_, rfl⟩
  obtain ⟨xnf, xhnf⟩ : ∃ n, n = x.funs.length := ⟨_, rfl⟩
  obtain ⟨xa, xha⟩ : ∃ a, a = x.all := ⟨_, rfl⟩
  obtain ⟨xf, xhf'⟩ : ∃ a, a = x.flat := ⟨_, rfl⟩
  obtain ⟨xp, xhp'⟩ : ∃ a, a = x.pair := ⟨_, rfl⟩
  obtain ⟨xn, xhn⟩ : ∃ a, a = x.fn := ⟨_, rfl⟩
  generalize deepF 20 x = z at hcall ⊢
  rw [← xhnp, ← xhnf, ← xha, ← xhf', ← xhp', ← xhn] at hcall ⊢
  obtain ⟨g, hg⟩ : ∃ g, g = w.heap.size := ⟨_, rfl⟩
  obtain ⟨W0, hW0⟩ : ∃ W0, W0 = (w.alloc (.cells #[.bool xa, .int .i64 xf, .int .i64 xp, (.slice xpa xnp xpc), .int .i64 xn, (.slice xfa xnf xfc)] 49)).alloc (.cells #[.int .i64 0] 3) := ⟨_, rfl⟩
  obtain ⟨W, hW⟩ : ∃ W, W = W0.alloc (.cells #[.func (.func 56) #[] #[.pointer (some ⟨w.heap.size + 1, 0, none⟩), .pointer (some ⟨w.heap.size + 1 + 1, 0, none⟩)]] 63) := ⟨_, rfl⟩
  have hs0 : W0.heap.size = w.heap.size + 1 + 1 := by rw [hW0]; simp
  have hb0 : Below W0.heap.size W0 W := by rw [hW]; exact (Below.refl _ _).alloc (Nat.le_refl _) _
  have hbw : Below w.heap.size w W0 := by rw [hW0]; exact ((Below.refl _ _).alloc (Nat.le_refl _) _).alloc (by simp) _
  have HBW := Lib.hid (hbw.trans (hb0.mono hbw.size))
  have hc : CountAt (w.heap.size + 1) (w.heap.size + 1 + 1) 0 W := by
    refine ⟨VarIs.keep ?_ hb0, ?_⟩
    · rw [hW0]; have := VarIs.made (w.alloc (.cells #[.bool xa, .int .i64 xf, .int .i64 xp, (.slice xpa xnp xpc), .int .i64 xn, (.slice xfa xnf xfc)] 49)) 3 (.int .i64 0); simp only [alloc_hs] at this; exact this
    · rw [hW, ← hs0]; exact VarIs.made _ _ _
  have HC := Lib.hid (hcall W _ _ HBW.out (by omega) (by omega) hc)
  have HW := Lib.hid (show W = ((w.alloc (.cells #[.bool xa, .int .i64 xf, .int .i64 xp, (.slice xpa xnp xpc), .int .i64 xn, (.slice xfa xnf xfc)] 49)).alloc (.cells #[.int .i64 0] 3)).alloc (.cells #[.func (.func 56) #[] #[.pointer (some ⟨w.heap.size + 1, 0, none⟩), .pointer (some ⟨w.heap.size + 1 + 1, 0, none⟩)]] 63) by rw [hW, hW0])
  clear hcall hW hW0 hs0 hb0 hbw hc hk hrng hx hg xhp xhf xhnp xhnf xha xhf' xhp' xhn
  go_enter Try.func30, Try.ntmps30
  go_wp2_with fail
  rw [← HW.out]
  refine HC.out.mono ?_
  rintro e w2 ⟨rfl, hb2⟩
  go_wp2
  go_ret
  exact ⟨rfl, hb2⟩
end Go.Proofs.Ytgjkobkcmgliaaa
