import Derived.Test.YtgjkobkcmgliaaaTyL2
namespace Go.Proofs.Ytgjkobkcmgliaaa
open Go.RowKit

/-- are two types the same, by what P says of their parts? -/
def sameByP (P : Ty → Ty → Bool) (x y : Ty) : Bool := x.all == y.all && x.flat == y.flat && x.pair == y.pair && x.fn == y.fn && (decide (x.pairs.length = y.pairs.length) && allZ P x.pairs y.pairs) && (decide (x.funs.length = y.funs.length) && allZ P x.funs y.funs)
def sameByC (cost : Ty → Ty → Nat) (x y : Ty) : Nat := (if x.pairs.length = y.pairs.length then preC cost x.pairs y.pairs x.pairs.length else 0) + (if x.funs.length = y.funs.length then preC cost x.funs y.funs x.funs.length else 0)

set_option maxRecDepth 100000 in
set_option maxHeartbeats 8000000 in
theorem sameBy_any {N : Nat → Prop} {St : Nat → World → Prop} {k : Nat} {lb : Array Value} {W0 : World} {R : Ty → Ty → Prop} {P : Ty → Ty → Bool} {cost : Ty → Ty → Nat} {lim : Nat} (F : Fn2 N St k lb W0 R P cost lim)
    (hN : ∀ b, N b → b < W0.heap.size) (x y : Ty) (vx vy : Value) (w : World) (n : Nat) (hw : Stay N W0 w) (hst : St n w) (hx : TyVN N w vx x) (hy : TyVN N w vy y)
    (hRp : x.pairs.length = y.pairs.length → ∀ j, j < x.pairs.length → R (x.pairs.getD j ty0) (y.pairs.getD j ty0)) (hRf : x.funs.length = y.funs.length → ∀ j, j < x.funs.length → R (x.funs.getD j ty0) (y.funs.getD j ty0)) (hc : n + sameByC cost x y ≤ lim) :
    Calls Try.prog 93 #[vx, vy, .func (.func k) #[] lb] w
      fun e w' => e = .returned (.bool (sameByP P x y)) ∧ Stay N w w' ∧ ∃ n', n' ≤ n + sameByC cost x y ∧ St n' w' := by
  obtain ⟨xpa, xpc, xfa, xfc, rfl, xhp, xhf⟩ := hx.form
  obtain ⟨xnp, xhnp⟩ : ∃ n, n = x.pairs.length := ⟨_, rfl⟩
  obtain ⟨xnf, xhnf⟩ : ∃ n, n = x.funs.length := ⟨_, rfl⟩
  obtain ⟨xa, xha⟩ : ∃ a, a = x.all := ⟨_, rfl⟩
  obtain ⟨xf, xhf'⟩ : ∃ a, a = x.flat := ⟨_, rfl⟩
  obtain ⟨xp, xhp'⟩ : ∃ a, a = x.pair := ⟨_, rfl⟩
  obtain ⟨xn, xhn⟩ : ∃ a, a = x.fn := ⟨_, rfl⟩
  obtain ⟨ypa, ypc, yfa, yfc, rfl, yhp, yhf⟩ := hy.form
  obtain ⟨ynp, yhnp⟩ : ∃ n, n = y.pairs.length := ⟨_, rfl⟩
  obtain ⟨ynf, yhnf⟩ : ∃ n, n = y.funs.length := ⟨_, rfl⟩
  obtain ⟨ya, yha⟩ : ∃ a, a = y.all := ⟨_, rfl⟩
  obtain ⟨yf, yhf'⟩ : ∃ a, a = y.flat := ⟨_, rfl⟩
  obtain ⟨yp, yhp'⟩ : ∃ a, a = y.pair := ⟨_, rfl⟩
  obtain ⟨yn, yhn⟩ : ∃ a, a = y.fn := ⟨_, rfl⟩
  have hP : ∀ w1 n1, Stay N w w1 → St n1 w1 → n1 ≤ n → Calls Try.prog 109 #[.slice xpa x.pairs.length xpc, .slice ypa y.pairs.length ypc, .func (.func k) #[] lb] w1
      fun e w' => e = .returned (.bool (decide (x.pairs.length = y.pairs.length) && allZ P x.pairs y.pairs)) ∧ Stay N w w' ∧ Stay N w1 w' ∧ ∃ n', n' ≤ n1 + (if x.pairs.length = y.pairs.length then preC cost x.pairs y.pairs x.pairs.length else 0) ∧ St n' w' := fun w1 n1 h1 h2 h3 =>
    (equalf_any F hN x.pairs y.pairs _ _ _ _ w1 n1 (hw.trans h1) h2 (TySN.stay xhp h1) (TySN.stay yhp h1) hRp (fun e => by unfold sameByC at hc; rw [if_pos e] at hc; omega)).mono fun e w' h => ⟨h.1, h1.trans h.2.1, h.2.1, h.2.2⟩
  have hF : ∀ w1 n1, Stay N w w1 → St n1 w1 → n1 ≤ n + (if x.pairs.length = y.pairs.length then preC cost x.pairs y.pairs x.pairs.length else 0) → Calls Try.prog 109 #[.slice xfa x.funs.length xfc, .slice yfa y.funs.length yfc, .func (.func k) #[] lb] w1
      fun e w' => e = .returned (.bool (decide (x.funs.length = y.funs.length) && allZ P x.funs y.funs)) ∧ Stay N w w' ∧ Stay N w1 w' ∧ ∃ n', n' ≤ n1 + (if x.funs.length = y.funs.length then preC cost x.funs y.funs x.funs.length else 0) ∧ St n' w' := fun w1 n1 h1 h2 h3 =>
    (equalf_any F hN x.funs y.funs _ _ _ _ w1 n1 (hw.trans h1) h2 (TySN.stay xhf h1) (TySN.stay yhf h1) hRf (fun e => by unfold sameByC at hc; rw [if_pos e] at hc; omega)).mono fun e w' h => ⟨h.1, h1.trans h.2.1, h.2.1, h.2.2⟩
  have hres : sameByP P x y = (x.all == y.all && x.flat == y.flat && x.pair == y.pair && x.fn == y.fn && (decide (x.pairs.length = y.pairs.length) && allZ P x.pairs y.pairs) && (decide (x.funs.length = y.funs.length) && allZ P x.funs y.funs)) := rfl
  have hcst : sameByC cost x y = (if x.pairs.length = y.pairs.length then preC cost x.pairs y.pairs x.pairs.length else 0) + (if x.funs.length = y.funs.length then preC cost x.funs y.funs x.funs.length else 0) := rfl
  have hkeep := F.keep
  generalize (if x.pairs.length = y.pairs.length then preC cost x.pairs y.pairs x.pairs.length else 0) = cp at hP hF hcst
  generalize (if x.funs.length = y.funs.length then preC cost x.funs y.funs x.funs.length else 0) = cf at hF hcst
  generalize (decide (x.pairs.length = y.pairs.length) && allZ P x.pairs y.pairs) = zp at hP hres
  generalize (decide (x.funs.length = y.funs.length) && allZ P x.funs y.funs) = zf at hF hres
  generalize sameByP P x y = z at hres ⊢
  generalize sameByC cost x y = cc at hcst ⊢
  rw [← xhnp, ← yhnp] at hP
  rw [← xhnf, ← yhnf] at hF
  rw [← xha, ← yha, ← xhf', ← yhf', ← xhp', ← yhp', ← xhn, ← yhn] at hres
  rw [← xhnp, ← xhnf, ← xha, ← xhf', ← xhp', ← xhn, ← yhnp, ← yhnf, ← yha, ← yhf', ← yhp', ← yhn]
  have hlt : w.heap.size ≤ w.heap.size := Nat.le_refl _
  have hN2 : ∀ b, N b → b < w.heap.size := fun b h => Nat.lt_of_lt_of_le (hN b h) hw.size
  obtain ⟨W, hW⟩ : ∃ W, W = (w.alloc (.cells #[.bool xa, .int .i64 xf, .int .i64 xp, (.slice xpa xnp xpc), .int .i64 xn, (.slice xfa xnf xfc)] 49)).alloc (.cells #[.bool ya, .int .i64 yf, .int .i64 yp, (.slice ypa ynp ypc), .int .i64 yn, (.slice yfa ynf yfc)] 49) := ⟨_, rfl⟩
  obtain ⟨g, hg⟩ : ∃ g, g = w.heap.size := ⟨_, rfl⟩
  have HBX := Lib.hid (show BoxAt W g xa xf xp (.slice xpa xnp xpc) xn (.slice xfa xnf xfc) by rw [hW, hg]; exact (BoxAt.made _ _ _ _ _ _ _).keep ((Below.refl _ _).alloc (Nat.le_refl _) _))
  have HBY := Lib.hid (show BoxAt W (g + 1) ya yf yp (.slice ypa ynp ypc) yn (.slice yfa ynf yfc) by rw [hW, hg]; have := BoxAt.made (w.alloc (.cells #[.bool xa, .int .i64 xf, .int .i64 xp, (.slice xpa xnp xpc), .int .i64 xn, (.slice xfa xnf xfc)] 49)) ya yf yp (.slice ypa ynp ypc) yn (.slice yfa ynf yfc); simpa using this)
  have HBW := Lib.hid (show Below w.heap.size w W by rw [hW]; exact ((Below.refl _ _).alloc (Nat.le_refl _) _).alloc (by simp) _)
  have HST := Lib.hid (hkeep _ _ _ hst HBW.out)
  have HN := Lib.hid (show ¬ N g ∧ ¬ N (g + 1) by rw [hg]; exact ⟨fun h => by have := hN2 _ h; omega, fun h => by have := hN2 _ h; omega⟩)
  have HG := Lib.hid hg
  have HW := Lib.hid hW
  have HP := Lib.hid hP
  have HF := Lib.hid hF
  have HR := Lib.hid hres
  have HC := Lib.hid hcst
  have HK := Lib.hid hkeep
  clear hP hF hres hcst hkeep hW hg hN hN2 hlt hRp hRf hc hst hw hx hy F xhp xhf xhnp xhnf xha xhf' xhp' xhn yhp yhf yhnp yhnf yha yhf' yhp' yhn
  by_cases c0 : xa = ya
  case neg =>
    have e1 : (xa == ya) = false := beq_false_of_ne c0
    have HNE := Lib.hid e1
    go_enter Try.func93, Try.ntmps93
    go_wp2
    go_ret
    exact ⟨ret_bool (by rw [HR.out]; simp [HNE.out]), .of (((Below.refl _ _).alloc (Nat.le_refl _) _).alloc (by simp) _), n, by omega, by have := HST.out; rwa [HW.out] at this⟩
  subst c0
  by_cases c0 : xf = yf
  case neg =>
    have e1 : (xf == yf) = false := beq_false_of_ne c0
    have HNE := Lib.hid e1
    go_enter Try.func93, Try.ntmps93
    go_wp2
    go_ret
    exact ⟨ret_bool (by rw [HR.out]; simp [HNE.out]), .of (((Below.refl _ _).alloc (Nat.le_refl _) _).alloc (by simp) _), n, by omega, by have := HST.out; rwa [HW.out] at this⟩
  subst c0
  by_cases c0 : xp = yp
  case neg =>
    have e1 : (xp == yp) = false := beq_false_of_ne c0
    have HNE := Lib.hid e1
    go_enter Try.func93, Try.ntmps93
    go_wp2
    go_ret
    exact ⟨ret_bool (by rw [HR.out]; simp [HNE.out]), .of (((Below.refl _ _).alloc (Nat.le_refl _) _).alloc (by simp) _), n, by omega, by have := HST.out; rwa [HW.out] at this⟩
  subst c0
  by_cases c0 : xn = yn
  case neg =>
    have e1 : (xn == yn) = false := beq_false_of_ne c0
    have HNE := Lib.hid e1
    go_enter Try.func93, Try.ntmps93
    go_wp2
    go_ret
    exact ⟨ret_bool (by rw [HR.out]; simp [HNE.out]), .of (((Below.refl _ _).alloc (Nat.le_refl _) _).alloc (by simp) _), n, by omega, by have := HST.out; rwa [HW.out] at this⟩
  subst c0
  go_enter Try.func93, Try.ntmps93
  go_wp2_with fail
  rw [← HG.out, ← HW.out]
  refine (HP.out W n (.of HBW.out) HST.out (Nat.le_refl _)).mono ?_
  rintro e w2 ⟨rfl, hs2, hs2', n2, hn2, ht2⟩
  have bx := (HBX.out.stay hs2' HN.out.1).c5
  have by' := (HBY.out.stay hs2' HN.out.2).c5
  have HS2 := Lib.hid hs2
  have HT2 := Lib.hid ht2
  have HN2 := Lib.hid hn2
  clear hs2 hs2' ht2 hn2
  cases zp with
  | false =>
    go_wp2
    go_ret
    exact ⟨ret_bool (by rw [HR.out]; simp), HS2.out, n2, by have := HN2.out; have := HC.out; omega, HT2.out⟩
  | true =>
    go_wp2_with fail
    refine (HF.out w2 n2 HS2.out HT2.out HN2.out).mono ?_
    rintro e w3 ⟨rfl, hs3, _, n3, hn3, ht3⟩
    have HS3 := Lib.hid hs3
    have HT3 := Lib.hid ht3
    have HN3 := Lib.hid hn3
    clear hs3 ht3 hn3
    go_wp2
    go_ret
    exact ⟨ret_bool (by rw [HR.out]; simp), HS3.out, n3, by have := HN2.out; have := HN3.out; have := HC.out; omega, HT3.out⟩

theorem preC_le (l m : List Ty) : ∀ k, k ≤ l.length → preC (fun x _ => szT x) l m k ≤ szTs l := by
  have key : ∀ (l m : List Ty) k, k ≤ l.length → preC (fun x _ => szT x) l m k + szTs (l.drop k) = szTs l := by
    intro l m k
    induction k with
    | zero => intro _; rw [preC]; simp
    | succ k ih =>
      intro h
      have h1 := ih (by omega)
      have h2 : l.drop k = l.getD k ty0 :: l.drop (k + 1) := by rw [List.drop_eq_getElem_cons (by omega), List.getD_eq_getElem?_getD, List.getElem?_eq_getElem (by omega)]; rfl
      rw [h2, szTs] at h1
      rw [preC]; omega
  intro k hk; have := key l m k hk; omega
theorem preC_zero (l m : List Ty) (k : Nat) : preC (fun _ _ => 0) l m k = 0 := by
  induction k with
  | zero => rfl
  | succ k ih => rw [preC, ih]
theorem sameByP_same (x y : Ty) : sameByP sameT x y = sameT x y := by
  have key : ∀ l m : List Ty, (decide (l.length = m.length) && allZ sameT l m) = samesT l m := fun l m => by
    rw [Bool.eq_iff_iff, Bool.and_eq_true, decide_eq_true_iff, samesT_iff, allZ_iff]
  rw [sameByP, key, key, sameT_eq]
end Go.Proofs.Ytgjkobkcmgliaaa
