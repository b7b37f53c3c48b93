import Derived.Test.YtgjkobkcmgliaaaTyL2
-- joined
namespace Go.Proofs.Ytgjkobkcmgliaaa
open Go.RowKit

/-- are two types the same, by what P says of their parts? -/
def sameByP (P : Ty → Ty → Bool) (x y : Ty) : Bool := x.all == y.all && x.flat == y.flat && x.pair == y.pair && x.fn == y.fn && (decide (x.pairs.length = y.pairs.length) && allZ P x.pairs y.pairs) && (decide (x.funs.length = y.funs.length) && allZ P x.funs y.funs)
def sameByC (cost : Ty → Ty → Nat) (x y : Ty) : Nat := (if x.pairs.length = y.pairs.length then preC cost x.pairs y.pairs x.pairs.length else 0) + (if x.funs.length = y.funs.length then preC cost x.funs y.funs x.funs.length else 0)

set_option maxRecDepth 100000 in
set_option maxHeartbeats 8000000 in
theorem sameBy_any {N : Nat → Prop} {St : Nat → World → Prop} {k : Nat} {lb : Array Value} {W0 : World} {R : Ty → Ty → Prop} {P : Ty → Ty → Bool} {cost : Ty → Ty → Nat} {lim : Nat} (F : Fn2 N St k lb W0 R P cost lim)
    (hN : ∀ b, N b → b < W0.heap.size) (x y : Ty) (vx vy : Value) (w : World) (n : Nat) (hw : Stay N W0 w) (hst : St n w) (hx : TyVN N w vx x) (hy : TyVN N w vy y)
    (hRp : x.pairs.length = y.pairs.length → ∀ j, j < x.pairs.length → R (x.pairs.getD j ty0) (y.pairs.getD j ty0)) (hRf : x.funs.length = y.funs.length → ∀ j, j < x.funs.length → R (x.funs.getD j ty0) (y.funs.getD j ty0)) (hc : n + sameByC cost x y ≤ lim) :
    Calls Try.prog 93 #[vx, vy, .func (.func k) #[] lb] w
      fun e w' => e = .returned (.bool (sameByP P x y)) ∧ Stay N w w' ∧ ∃ n', n' ≤ n + sameByC cost x y ∧ St n' w' := by
  obtain ⟨xpa, xpc, xfa, xfc, rfl, xhp, xhf⟩ := hx.form
  obtain ⟨xnp, xhnp⟩ : ∃ n, n = x.pairs.length := ⟨_, rfl⟩
  obtain ⟨xnf, xhnf⟩ : ∃ n, n = x.funs.length := ⟨_, rfl⟩
  obtain ⟨xa, xha⟩ : ∃ a, a = x.all := ⟨_, rfl⟩
  obtain ⟨xf, xhf'⟩ : ∃ a, a = x.flat := ⟨_, rfl⟩
  obtain ⟨xp, xhp'⟩ : ∃ a, a = x.pair := ⟨_, rfl⟩
  obtain ⟨xn, xhn⟩ : ∃ a, a = x.fn := ⟨_, rfl⟩
  obtain ⟨ypa, ypc, yfa, yfc, rfl, yhp, yhf⟩ := hy.form
  obtain ⟨ynp, yhnp⟩ : ∃ n, n = y.pairs.length := ⟨_, rfl⟩
  obtain ⟨ynf, yhnf⟩ : ∃ n, n = y.funs.length := ⟨_, rfl⟩
  obtain ⟨ya, yha⟩ : ∃ a, a = y.all := ⟨_, rfl⟩
  obtain ⟨yf, yhf'⟩ : ∃ a, a = y.flat := ⟨_, rfl⟩
  obtain ⟨yp, yhp'⟩ : ∃ a, a = y.pair := ⟨_, rfl⟩
  obtain ⟨yn, yhn⟩ : ∃ a, a = y.fn := ⟨_, rfl⟩
  have hP : ∀ w1 n1, Stay N w w1 → St n1 w1 → n1 ≤ n → Calls Try.prog 109 #[.slice xpa x.pairs.length xpc, .slice ypa y.pairs.length ypc, .func (.func k) #[] lb] w1
      fun e w' => e = .returned (.bool (decide (x.pairs.length = y.pairs.length) && allZ P x.pairs y.pairs)) ∧ Stay N w w' ∧ Stay N w1 w' ∧ ∃ n', n' ≤ n1 + (if x.pairs.length = y.pairs.length then preC cost x.pairs y.pairs x.pairs.length else 0) ∧ St n' w' := fun w1 n1 h1 h2 h3 =>
    (equalf_any F hN x.pairs y.pairs _ _ _ _ w1 n1 (hw.trans h1) h2 (TySN.stay xhp h1) (TySN.stay yhp h1) hRp (fun e => by unfold sameByC at hc; rw [if_pos e] at hc; omega)).mono fun e w' h => ⟨h.1, h1.trans h.2.1, h.2.1, h.2.2⟩
  have hF : ∀ w1 n1, Stay N w w1 → St n1 w1 → n1 ≤ n + (if x.pairs.length = y.pairs.length then preC cost x.pairs y.pairs x.pairs.length else 0) → Calls Try.prog 109 #[.slice xfa x.funs.length xfc, .slice yfa y.funs.length yfc, .func (.func k) #[] lb] w1
      fun e w' => e = .returned (.bool (decide (x.funs.length = y.funs.length) && allZ P x.funs y.funs)) ∧ Stay N w w' ∧ Stay N w1 w' ∧ ∃ n', n' ≤ n1 + (if x.funs.length = y.funs.length then preC cost x.funs y.funs x.funs.length else 0) ∧ St n' w' := fun w1 n1 h1 h2 h3 =>
    (equalf_any F hN x.funs y.funs _ _ _ _ w1 n1 (hw.trans h1) h2 (TySN.stay xhf h1) (TySN.stay yhf h1) hRf (fun e => by unfold sameByC at hc; rw [if_pos e] at hc; omega)).mono fun e w' h => ⟨h.1, h1.trans h.2.1, h.2.1, h.2.2⟩
  have hres : sameByP P x y = (x.all == y.all && x.flat == y.flat && x.pair == y.pair && x.fn == y.fn && (decide (x.pairs.length = y.pairs.length) && allZ P x.pairs y.pairs) && (decide (x.funs.length = y.funs.length) && allZ P x.funs y.funs)) := rfl
  have hcst : sameByC cost x y = (if x.pairs.length = y.pairs.length then preC cost x.pairs y.pairs x.pairs.length else 0) + (if x.funs.length = y.funs.length then preC cost x.funs y.funs x.funs.length else 0) := rfl
  have hkeep := F.keep
  generalize (if x.pairs.length = y.pairs.length then preC cost x.pairs y.pairs x.pairs.length else 0) = cp at hP hF hcst
  generalize (if x.funs.length = y.funs.length then preC cost x.funs y.funs x.funs.length else 0) = cf at hF hcst
  generalize (decide (x.pairs.length = y.pairs.length) && allZ P x.pairs y.pairs) = zp at hP hres
  generalize (decide (x.funs.length = y.funs.length) && allZ P x.funs y.funs) = zf at hF hres
  generalize sameByP P x y = z at hres ⊢
  generalize sameByC cost x y = cc at hcst ⊢
  rw [← xhnp, ← yhnp] at hP
  rw [← xhnf, ← yhnf] at hF
  rw [← xha, ← yha, ← xhf', ← yhf', ← xhp', ← yhp', ← xhn, ← yhn] at hres
  rw [← xhnp, ← xhnf, ← xha, ← xhf', ← xhp', ← xhn, ← yhnp, ← yhnf, ← yha, ← yhf', ← yhp', ← yhn]
  have hlt : w.heap.size ≤ w.heap.size := Nat.le_refl _
  have hN2 : ∀ b, N b → b < w.heap.size := fun b h => Nat.lt_of_lt_of_le (hN b h) hw.size
  obtain ⟨W, hW⟩ : ∃ W, W = (w.alloc (.cells #[.bool xa, .int .i64 xf, .int .i64 xp, (.slice xpa xnp xpc), .int .i64 xn, (.slice xfa xnf xfc)] 49)).alloc (.cells #[.bool ya, .int .i64 yf, .int .i64 yp, (.slice ypa ynp ypc), .int .i64 yn, (.slice yfa ynf yfc)] 49) := ⟨_, rfl⟩
  obtain ⟨g, hg⟩ : ∃ g, g = w.heap.size := ⟨_, rfl⟩
  have HBX := Lib.hid (show BoxAt W g xa xf xp (.slice xpa xnp xpc) xn (.slice xfa xnf xfc) by rw [hW, hg]; exact (BoxAt.made _ _ _ _ _ _ _).keep ((Below.refl _ _).alloc (Nat.le_refl _) _))
  have HBY := Lib.hid (show BoxAt W (g + 1) ya yf yp (.slice ypa ynp ypc) yn (.slice yfa ynf yfc) by rw [hW, hg]; have := BoxAt.made (w.alloc (.cells #[.bool xa, .int .i64 xf, .int .i64 xp, (.slice xpa xnp xpc), .int .i64 xn, (.slice xfa xnf xfc)] 49)) ya yf yp (.slice ypa ynp ypc) yn (.slice yfa ynf yfc); simpa using this)
  have HBW := Lib.hid (show Below w.heap.size w W by rw [hW]; exact ((Below.refl _ _).alloc (Nat.le_refl _) _).alloc (by simp) _)
  have HST := Lib.hid (hkeep _ _ _ hst HBW.out)
  have HN := Lib.hid (show ¬ N g ∧ ¬ N (g + 1) by rw [hg]; exact ⟨fun h => by have := hN2 _ h; omega, fun h => by have := hN2 _ h; omega⟩)
  have HG := Lib.hid hg
  have HW := Lib.hid hW
  have HP := Lib.hid hP
  have HF := Lib.hid hF
  have HR := Lib.hid hres
  have HC := Lib.hid hcst
  have HK := Lib.hid hkeep
  clear hP hF hres hcst hkeep hW hg hN hN2 hlt hRp hRf hc hst hw hx hy F xhp xhf xhnp xhnf xha xhf' xhp' xhn yhp yhf yhnp yhnf yha yhf' yhp' yhn
  by_cases c0 : xa = ya
  case neg =>
    have e1 : (xa == ya) = false := beq_false_of_ne c0
    have HNE := Lib.hid e1
    go_enter Try.func93, Try.ntmps93
    go_wp2
    go_ret
    exact ⟨ret_bool (by rw [HR.out]; simp [HNE.out]), .of (((Below.refl _ _).alloc (Nat.le_refl _) _).alloc (by simp) _), n, by omega, by have := HST.out; rwa [HW.out] at this⟩
  subst c0
  by_cases c0 : xf = yf
  case neg =>
    have e1 : (xf == yf) = false := beq_false_of_ne c0
    have HNE := Lib.hid e1
    go_enter Try.func93, Try.ntmps93
    go_wp2
    go_ret
    exact ⟨ret_bool (by rw [HR.out]; simp [HNE.out]), .of (((Below.refl _ _).alloc (Nat.le_refl _) _).alloc (by simp) _), n, by omega, by have := HST.out; rwa [HW.out] at this⟩
  subst c0
  by_cases c0 : xp = yp
  case neg =>
    have e1 : (xp == yp) = false := beq_false_of_ne c0
    have HNE := Lib.hid e1
    go_enter Try.func93, Try.ntmps93
    go_wp2
    go_ret
    exact ⟨ret_bool (by rw [HR.out]; simp [HNE.out]), .of (((Below.refl _ _).alloc (Nat.le_refl _) _).alloc (by simp) _), n, by omega, by have := HST.out; rwa [HW.out] at this⟩
  subst c0
  by_cases c0 : xn = yn
  case neg =>
    have e1 : (xn == yn) = false := beq_false_of_ne c0
    have HNE := Lib.hid e1
    go_enter Try.func93, Try.ntmps93
    go_wp2
    go_ret
    exact ⟨ret_bool (by rw [HR.out]; simp [HNE.out]), .of (((Below.refl _ _).alloc (Nat.le_refl _) _).alloc (by simp) _), n, by omega, by have := HST.out; rwa [HW.out] at this⟩
  subst c0
  go_enter Try.func93, Try.ntmps93
  go_wp2_with fail
  rw [← HG.out, ← HW.out]
  refine (HP.out W n (.of HBW.out) HST.out (Nat.le_refl _)).mono ?_
  rintro e w2 ⟨rfl, hs2, hs2', n2, hn2, ht2⟩
  have bx := (HBX.out.stay hs2' HN.out.1).c5
  have by' := (HBY.out.stay hs2' HN.out.2).c5
  have HS2 := Lib.hid hs2
  have HT2 := Lib.hid ht2
  have HN2 := Lib.hid hn2
  clear hs2 hs2' ht2 hn2
  cases zp with
  | false =>
    go_wp2
    go_ret
    exact ⟨ret_bool (by rw [HR.out]; simp), HS2.out, n2, by have := HN2.out; have := HC.out; omega, HT2.out⟩
  | true =>
    go_wp2_with fail
    refine (HF.out w2 n2 HS2.out HT2.out HN2.out).mono ?_
    rintro e w3 ⟨rfl, hs3, _, n3, hn3, ht3⟩
    have HS3 := Lib.hid hs3
    have HT3 := Lib.hid ht3
    have HN3 := Lib.hid hn3
    clear hs3 ht3 hn3
    go_wp2
    go_ret
    exact ⟨ret_bool (by rw [HR.out]; simp), HS3.out, n3, by have := HN2.out; have := HN3.out; have := HC.out; omega, HT3.out⟩

theorem preC_le (l m : List Ty) : ∀ k, k ≤ l.length → preC (fun x _ => szT x) l m k ≤ szTs l := by
  have key : ∀ (l m : List Ty) k, k ≤ l.length → preC (fun x _ => szT x) l m k + szTs (l.drop k) = szTs l := by
    intro l m k
    induction k with
    | zero => intro _; rw [preC]; simp
    | succ k ih =>
      intro h
      have h1 := ih (by omega)
      have h2 : l.drop k = l.getD k ty0 :: l.drop (k + 1) := by rw [List.drop_eq_getElem_cons (by omega), List.getD_eq_getElem?_getD, List.getElem?_eq_getElem (by omega)]; rfl
      rw [h2, szTs] at h1
      rw [preC]; omega
  intro k hk; have := key l m k hk; omega
theorem preC_zero (l m : List Ty) (k : Nat) : preC (fun _ _ => 0) l m k = 0 := by
  induction k with
  | zero => rfl
  | succ k ih => rw [preC, ih]
theorem sameByP_same (x y : Ty) : sameByP sameT x y = sameT x y := by
  have key : ∀ l m : List Ty, (decide (l.length = m.length) && allZ sameT l m) = samesT l m := fun l m => by
    rw [Bool.eq_iff_iff, Bool.and_eq_true, decide_eq_true_iff, samesT_iff, allZ_iff]
  rw [sameByP, key, key, sameT_eq]
end Go.Proofs.Ytgjkobkcmgliaaa
namespace Go.Proofs.Ytgjkobkcmgliaaa
open Go.RowKit
end Go.Proofs.Ytgjkobkcmgliaaa
namespace Go.Proofs.Ytgjkobkcmgliaaa
open Go.RowKit

theorem alloc_hs (w : World) (o : Obj) : (w.alloc o).heap.size = w.heap.size + 1 := by simp
/-- the steps that a walk has taken -/
def WalkAt (c : Nat) (n : Nat) (w : World) : Prop := VarIs w c 90 (.int .i64 n)
theorem WalkAt.keep {c n : Nat} {w w' : World} (h : WalkAt c n w) (hb : Below w.heap.size w w') : WalkAt c n w' := VarIs.keep h hb

set_option maxRecDepth 100000 in
set_option maxHeartbeats 4000000 in
theorem on_any (c n d : Nat) (w : World) (hw : WalkAt c n w) (hn : n + 1 ≤ 131072) (hd : d ≤ 1024) : Calls Try.prog 76 #[.pointer (some ⟨c, 0, none⟩), .int .i64 d] w
    fun e w' => e = .returned (.bool true) ∧ Stay (· = c) w w' ∧ WalkAt c (n + 1) w' := by
  have hc := VarIs.c hw
  have hf := VarIs.fr hw 0
  have h1 : (d : Int) ≤ 1024 := by omega
  have h2 : (n : Int) + 1 ≤ 131072 := by omega
  have HW := Lib.hid hw
  clear hw hn hd
  go_enter Try.func76, Try.ntmps76
  go_wp2
  go_ret
  exact ⟨rfl, Stay.set (N := (· = c)) .refl rfl _, by have := VarIs.set HW.out (.int .i64 ((n : Int) + 1)); exact this⟩

set_option maxRecDepth 100000 in
set_option maxHeartbeats 8000000 in
theorem same_clo {S : World → Prop} {z : Bool} (x y : Ty) (vx vy : Value) (w : World) (c d g1 g2 : Nat) (hd : d ≤ 1024) (h1 : VarIs w g1 88 (.pointer (some ⟨c, 0, none⟩))) (h2 : VarIs w g2 3 (.int .i64 d)) (hx : TyV w vx x) (hy : TyV w vy y)
    (hcall : ∀ w1, Below w.heap.size w w1 → Calls Try.prog 80 #[.pointer (some ⟨c, 0, none⟩), vx, vy, .int .i64 ((d : Int) + 1)] w1 fun e w' => e = .returned (.bool z) ∧ S w') :
    Calls Try.prog 94 #[vx, vy, .pointer (some ⟨g1, 0, none⟩), .pointer (some ⟨g2, 0, none⟩)] w fun e w' => e = .returned (.bool z) ∧ S w' := by
  obtain ⟨xpa, xpc, xfa, xfc, rfl, xhp, xhf⟩ := hx.form
  obtain ⟨xnp, xhnp⟩ : ∃ n, n = x.pairs.length := ⟨_, rfl⟩
  obtain ⟨xnf, xhnf⟩ : ∃ n, n = x.funs.length := ⟨_, rfl⟩
  obtain ⟨xa, xha⟩ : ∃ a, a = x.all := ⟨_, rfl⟩
  obtain ⟨xf, xhf'⟩ : ∃ a, a = x.flat := ⟨_, rfl⟩
  obtain ⟨xp, xhp'⟩ : ∃ a, a = x.pair := ⟨_, rfl⟩
  obtain ⟨xn, xhn⟩ : ∃ a, a = x.fn := ⟨_, rfl⟩
  obtain ⟨ypa, ypc, yfa, yfc, rfl, yhp, yhf⟩ := hy.form
  obtain ⟨ynp, yhnp⟩ : ∃ n, n = y.pairs.length := ⟨_, rfl⟩
  obtain ⟨ynf, yhnf⟩ : ∃ n, n = y.funs.length := ⟨_, rfl⟩
  obtain ⟨ya, yha⟩ : ∃ a, a = y.all := ⟨_, rfl⟩
  obtain ⟨yf, yhf'⟩ : ∃ a, a = y.flat := ⟨_, rfl⟩
  obtain ⟨yp, yhp'⟩ : ∃ a, a = y.pair := ⟨_, rfl⟩
  obtain ⟨yn, yhn⟩ : ∃ a, a = y.fn := ⟨_, rfl⟩
  rw [← xhnp, ← xhnf, ← xha, ← xhf', ← xhp', ← xhn, ← yhnp, ← yhnf, ← yha, ← yhf', ← yhp', ← yhn] at hcall ⊢
  obtain ⟨W, hW⟩ : ∃ W, W = (w.alloc (.cells #[.bool xa, .int .i64 xf, .int .i64 xp, (.slice xpa xnp xpc), .int .i64 xn, (.slice xfa xnf xfc)] 49)).alloc (.cells #[.bool ya, .int .i64 yf, .int .i64 yp, (.slice ypa ynp ypc), .int .i64 yn, (.slice yfa ynf yfc)] 49) := ⟨_, rfl⟩
  have HBW := Lib.hid (show Below w.heap.size w W by rw [hW]; exact ((Below.refl _ _).alloc (Nat.le_refl _) _).alloc (by simp) _)
  have k1 := (h1.keep HBW.out).c
  have k2 := (h2.keep HBW.out).c
  rw [hW] at k1 k2
  have HW := Lib.hid hW
  have hd2 : (d : Int) ≤ 1024 := by omega
  have HC := Lib.hid hcall
  clear hcall hW hd h1 h2 hx hy xhp xhf xhnp xhnf xha xhf' xhp' xhn yhp yhf yhnp yhnf yha yhf' yhp' yhn
  go_enter Try.func94, Try.ntmps94
  go_wp2_with fail
  rw [← HW.out]
  refine (HC.out W HBW.out).mono ?_
  rintro e w2 ⟨rfl, hb2⟩
  go_wp2
  go_ret
  exact ⟨rfl, hb2⟩

set_option maxRecDepth 100000 in
set_option maxHeartbeats 8000000 in
theorem sub_clo {S : World → Prop} {z : Bool} (x y : Ty) (vx vy : Value) (w : World) (c d g1 g2 : Nat) (hd : d ≤ 1024) (h1 : VarIs w g1 88 (.pointer (some ⟨c, 0, none⟩))) (h2 : VarIs w g2 3 (.int .i64 d)) (hx : TyV w vx x) (hy : TyV w vy y)
    (hcall : ∀ w1, Below w.heap.size w w1 → Calls Try.prog 61 #[.pointer (some ⟨c, 0, none⟩), vx, vy, .int .i64 ((d : Int) + 1)] w1 fun e w' => e = .returned (.bool z) ∧ S w') :
    Calls Try.prog 81 #[vx, vy, .pointer (some ⟨g1, 0, none⟩), .pointer (some ⟨g2, 0, none⟩)] w fun e w' => e = .returned (.bool z) ∧ S w' := by
  obtain ⟨xpa, xpc, xfa, xfc, rfl, xhp, xhf⟩ := hx.form
  obtain ⟨xnp, xhnp⟩ : ∃ n, n = x.pairs.length := ⟨_, rfl⟩
  obtain ⟨xnf, xhnf⟩ : ∃ n, n = x.funs.length := ⟨_, rfl⟩
  obtain ⟨xa, xha⟩ : ∃ a, a = x.all := ⟨_, rfl⟩
  obtain ⟨xf, xhf'⟩ : ∃ a, a = x.flat := ⟨_, rfl⟩
  obtain ⟨xp, xhp'⟩ : ∃ a, a = x.pair := ⟨_, rfl⟩
  obtain ⟨xn, xhn⟩ : ∃ a, a = x.fn := ⟨_, rfl⟩
  obtain ⟨ypa, ypc, yfa, yfc, rfl, yhp, yhf⟩ := hy.form
  obtain ⟨ynp, yhnp⟩ : ∃ n, n = y.pairs.length := ⟨_, rfl⟩
  obtain ⟨ynf, yhnf⟩ : ∃ n, n = y.funs.length := ⟨_, rfl⟩
  obtain ⟨ya, yha⟩ : ∃ a, a = y.all := ⟨_, rfl⟩
  obtain ⟨yf, yhf'⟩ : ∃ a, a = y.flat := ⟨_, rfl⟩
  obtain ⟨yp, yhp'⟩ : ∃ a, a = y.pair := ⟨_, rfl⟩
  obtain ⟨yn, yhn⟩ : ∃ a, a = y.fn := ⟨_, rfl⟩
  rw [← xhnp, ← xhnf, ← xha, ← xhf', ← xhp', ← xhn, ← yhnp, ← yhnf, ← yha, ← yhf', ← yhp', ← yhn] at hcall ⊢
  obtain ⟨W, hW⟩ : ∃ W, W = (w.alloc (.cells #[.bool xa, .int .i64 xf, .int .i64 xp, (.slice xpa xnp xpc), .int .i64 xn, (.slice xfa xnf xfc)] 49)).alloc (.cells #[.bool ya, .int .i64 yf, .int .i64 yp, (.slice ypa ynp ypc), .int .i64 yn, (.slice yfa ynf yfc)] 49) := ⟨_, rfl⟩
  have HBW := Lib.hid (show Below w.heap.size w W by rw [hW]; exact ((Below.refl _ _).alloc (Nat.le_refl _) _).alloc (by simp) _)
  have k1 := (h1.keep HBW.out).c
  have k2 := (h2.keep HBW.out).c
  rw [hW] at k1 k2
  have HW := Lib.hid hW
  have hd2 : (d : Int) ≤ 1024 := by omega
  have HC := Lib.hid hcall
  clear hcall hW hd h1 h2 hx hy xhp xhf xhnp xhnf xha xhf' xhp' xhn yhp yhf yhnp yhnf yha yhf' yhp' yhn
  go_enter Try.func81, Try.ntmps81
  go_wp2_with fail
  rw [← HW.out]
  refine (HC.out W HBW.out).mono ?_
  rintro e w2 ⟨rfl, hb2⟩
  go_wp2
  go_ret
  exact ⟨rfl, hb2⟩

set_option maxRecDepth 100000 in
set_option maxHeartbeats 8000000 in
theorem join2_clo {S : World → Prop} {z : Bool} (x y : Ty) (vx vy : Value) (w : World) (c d g1 g2 : Nat) (hd : d ≤ 1024) (h1 : VarIs w g1 88 (.pointer (some ⟨c, 0, none⟩))) (h2 : VarIs w g2 3 (.int .i64 d)) (hx : TyV w vx x) (hy : TyV w vy y)
    (hcall : ∀ w1, Below w.heap.size w w1 → Calls Try.prog 80 #[.pointer (some ⟨c, 0, none⟩), vx, vy, .int .i64 ((d : Int) + 1)] w1 fun e w' => e = .returned (.bool z) ∧ S w') :
    Calls Try.prog 79 #[vx, vy, .pointer (some ⟨g1, 0, none⟩), .pointer (some ⟨g2, 0, none⟩)] w fun e w' => e = .returned (.bool z) ∧ S w' := by
  obtain ⟨xpa, xpc, xfa, xfc, rfl, xhp, xhf⟩ := hx.form
  obtain ⟨xnp, xhnp⟩ : ∃ n, n = x.pairs.length := ⟨_, rfl⟩
  obtain ⟨xnf, xhnf⟩ : ∃ n, n = x.funs.length := ⟨_, rfl⟩
  obtain ⟨xa, xha⟩ : ∃ a, a = x.all := ⟨_, rfl⟩
  obtain ⟨xf, xhf'⟩ : ∃ a, a = x.flat := ⟨_, rfl⟩
  obtain ⟨xp, xhp'⟩ : ∃ a, a = x.pair := ⟨_, rfl⟩
  obtain ⟨xn, xhn⟩ : ∃ a, a = x.fn := ⟨_, rfl⟩
  obtain ⟨ypa, ypc, yfa, yfc, rfl, yhp, yhf⟩ := hy.form
  obtain ⟨ynp, yhnp⟩ : ∃ n, n = y.pairs.length := ⟨_, rfl⟩
  obtain ⟨ynf, yhnf⟩ : ∃ n, n = y.funs.length := ⟨_, rfl⟩
  obtain ⟨ya, yha⟩ : ∃ a, a = y.all := ⟨_, rfl⟩
  obtain ⟨yf, yhf'⟩ : ∃ a, a = y.flat := ⟨_, rfl⟩
  obtain ⟨yp, yhp'⟩ : ∃ a, a = y.pair := ⟨_, rfl⟩
  obtain ⟨yn, yhn⟩ : ∃ a, a = y.fn := ⟨_, rfl⟩
  rw [← xhnp, ← xhnf, ← xha, ← xhf', ← xhp', ← xhn, ← yhnp, ← yhnf, ← yha, ← yhf', ← yhp', ← yhn] at hcall ⊢
  obtain ⟨W, hW⟩ : ∃ W, W = (w.alloc (.cells #[.bool xa, .int .i64 xf, .int .i64 xp, (.slice xpa xnp xpc), .int .i64 xn, (.slice xfa xnf xfc)] 49)).alloc (.cells #[.bool ya, .int .i64 yf, .int .i64 yp, (.slice ypa ynp ypc), .int .i64 yn, (.slice yfa ynf yfc)] 49) := ⟨_, rfl⟩
  have HBW := Lib.hid (show Below w.heap.size w W by rw [hW]; exact ((Below.refl _ _).alloc (Nat.le_refl _) _).alloc (by simp) _)
  have k1 := (h1.keep HBW.out).c
  have k2 := (h2.keep HBW.out).c
  rw [hW] at k1 k2
  have HW := Lib.hid hW
  have hd2 : (d : Int) ≤ 1024 := by omega
  have HC := Lib.hid hcall
  clear hcall hW hd h1 h2 hx hy xhp xhf xhnp xhnf xha xhf' xhp' xhn yhp yhf yhnp yhnf yha yhf' yhp' yhn
  go_enter Try.func79, Try.ntmps79
  go_wp2_with fail
  rw [← HW.out]
  refine (HC.out W HBW.out).mono ?_
  rintro e w2 ⟨rfl, hb2⟩
  go_wp2
  go_ret
  exact ⟨rfl, hb2⟩

def WSok (n : Nat) : Prop := ∀ (x y : Ty) (vx vy : Value) (w : World) (c k d : Nat), szT x ≤ n → k + szT x ≤ 131072 → d + szT x ≤ 1024 → WalkAt c k w → TyVN (· = c) w vx x → TyVN (· = c) w vy y →
    Calls Try.prog 80 #[.pointer (some ⟨c, 0, none⟩), vx, vy, .int .i64 d] w fun e w' => e = .returned (.bool (sameT x y)) ∧ Stay (· = c) w w' ∧ ∃ k', k' ≤ k + szT x ∧ WalkAt c k' w'
theorem sameByC_le (x y : Ty) : sameByC (fun x _ => szT x) x y ≤ szTs x.pairs + szTs x.funs := by
  unfold sameByC
  have h1 := preC_le x.pairs y.pairs _ (Nat.le_refl _)
  have h2 := preC_le x.funs y.funs _ (Nat.le_refl _)
  split <;> split <;> omega

set_option maxRecDepth 100000 in
set_option maxHeartbeats 8000000 in
theorem ws_succ (n : Nat) (ih : WSok n) : WSok (n + 1) := by
  intro x y vx vy w c k d hsz hk hd hw hx hy
  have hmf : ∀ (fn : Fn) (first cap : Array Value) (w : World), (Instr.makeFunc fn first cap).run Try.prog w = .ok (.func fn first cap) w := fun _ _ _ _ => rfl
  have hsx := szT_eq x
  have hclt : c < w.heap.size := VarIs.lt hw
  have hcall : ∀ (w1 : World) (g1 g2 : Nat), Stay (· = c) w w1 → WalkAt c (k + 1) w1 → g1 ≠ c → g2 ≠ c → VarIs w1 g1 88 (.pointer (some ⟨c, 0, none⟩)) → VarIs w1 g2 3 (.int .i64 d) →
      Calls Try.prog 93 #[vx, vy, .func (.func 94) #[] #[.pointer (some ⟨g1, 0, none⟩), .pointer (some ⟨g2, 0, none⟩)]] w1
      fun e w' => e = .returned (.bool (sameT x y)) ∧ Stay (· = c) w w' ∧ ∃ k', k' ≤ k + szT x ∧ WalkAt c k' w' := fun w1 g1 g2 h1 hc n1 n2 hg1 hg2 => by
    have F : Fn2 (· = c) (WalkAt c) 94 #[.pointer (some ⟨g1, 0, none⟩), .pointer (some ⟨g2, 0, none⟩)] w1 (fun x' _ => szT x' < szT x) sameT (fun x _ => szT x) 131072 := by
      refine ⟨fun _ _ _ h hb => h.keep hb, fun _ _ => rfl, ?_⟩
      intro w2 v1 v2 x' y' n' hs hwk hlim hR h1' h2'
      refine same_clo x' y' v1 v2 w2 c d g1 g2 (by omega) (hg1.stay hs n1) (hg2.stay hs n2) h1'.v h2'.v fun w3 hb => ?_
      refine (ih x' y' v1 v2 w3 c n' (d + 1) (by omega) (by omega) (by omega) (hwk.keep hb) (h1'.below hb) (h2'.below hb)).mono ?_
      rintro e w4 ⟨he, hs4, hk4⟩
      exact ⟨he, (Stay.of hb).trans hs4, hk4⟩
    have hle := sameByC_le x y
    refine (sameBy_any F (fun b hb => by rw [hb]; exact VarIs.lt hc) x y vx vy w1 (k + 1) .refl hc (hx.stay h1) (hy.stay h1) (fun _ j hj => szT_pair x j hj) (fun _ j hj => szT_fun x j hj) (by omega)).mono ?_
    rintro e w3 ⟨he, hs, k', hk', hw'⟩
    rw [sameByP_same] at he
    exact ⟨he, h1.trans hs, k', by omega, hw'⟩
  have hon : ∀ w1, Below w.heap.size w w1 → Calls Try.prog 76 #[.pointer (some ⟨c, 0, none⟩), .int .i64 d] w1 fun e w' => e = .returned (.bool true) ∧ Stay (· = c) w1 w' ∧ WalkAt c (k + 1) w' := fun w1 hb =>
    on_any c k d w1 (hw.keep hb) (by have := szT_pos x; omega) (by omega)
  obtain ⟨xpa, xpc, xfa, xfc, rfl, xhp, xhf⟩ := hx.form
  obtain ⟨xnp, xhnp⟩ : ∃ n, n = x.pairs.length := ⟨_, rfl⟩
  obtain ⟨xnf, xhnf⟩ : ∃ n, n = x.funs.length := ⟨_, rfl⟩
  obtain ⟨xa, xha⟩ : ∃ a, a = x.all := ⟨_, rfl⟩
  obtain ⟨xf, xhf'⟩ : ∃ a, a = x.flat := ⟨_, rfl⟩
  obtain ⟨xp, xhp'⟩ : ∃ a, a = x.pair := ⟨_, rfl⟩
  obtain ⟨xn, xhn⟩ : ∃ a, a = x.fn := ⟨_, rfl⟩
  obtain ⟨ypa, ypc, yfa, yfc, rfl, yhp, yhf⟩ := hy.form
  obtain ⟨ynp, yhnp⟩ : ∃ n, n = y.pairs.length := ⟨_, rfl⟩
  obtain ⟨ynf, yhnf⟩ : ∃ n, n = y.funs.length := ⟨_, rfl⟩
  obtain ⟨ya, yha⟩ : ∃ a, a = y.all := ⟨_, rfl⟩
  obtain ⟨yf, yhf'⟩ : ∃ a, a = y.flat := ⟨_, rfl⟩
  obtain ⟨yp, yhp'⟩ : ∃ a, a = y.pair := ⟨_, rfl⟩
  obtain ⟨yn, yhn⟩ : ∃ a, a = y.fn := ⟨_, rfl⟩
  generalize sameT x y = z at hcall ⊢
  generalize szT x = sx at hcall ⊢
  rw [← xhnp, ← xhnf, ← xha, ← xhf', ← xhp', ← xhn, ← yhnp, ← yhnf, ← yha, ← yhf', ← yhp', ← yhn] at hcall ⊢
  obtain ⟨g, hg⟩ : ∃ g, g = w.heap.size := ⟨_, rfl⟩
  obtain ⟨W, hW⟩ : ∃ W, W = (((w.alloc (.cells #[.pointer (some ⟨c, 0, none⟩)] 88)).alloc (.cells #[.bool xa, .int .i64 xf, .int .i64 xp, (.slice xpa xnp xpc), .int .i64 xn, (.slice xfa xnf xfc)] 49)).alloc (.cells #[.bool ya, .int .i64 yf, .int .i64 yp, (.slice ypa ynp ypc), .int .i64 yn, (.slice yfa ynf yfc)] 49)).alloc (.cells #[.int .i64 (d : Int)] 3) := ⟨_, rfl⟩
  have HG := Lib.hid hg
  have HCL := Lib.hid hclt
  have HBW := Lib.hid (show Below w.heap.size w W by rw [hW]; exact ((((Below.refl _ _).alloc (Nat.le_refl _) _).alloc (by simp) _).alloc (by simp; omega) _).alloc (by simp; omega) _)
  have HV1 := Lib.hid (show VarIs W g 88 (.pointer (some ⟨c, 0, none⟩)) by
    rw [hW, hg]; exact (((VarIs.made _ _ _).keep ((Below.refl _ _).alloc (Nat.le_refl _) _)).keep ((Below.refl _ _).alloc (Nat.le_refl _) _)).keep ((Below.refl _ _).alloc (Nat.le_refl _) _))
  have HBX := Lib.hid (show BoxAt W (g + 1) xa xf xp (.slice xpa xnp xpc) xn (.slice xfa xnf xfc) by
    rw [hW, hg]; have := BoxAt.made (w.alloc (.cells #[.pointer (some ⟨c, 0, none⟩)] 88)) xa xf xp (.slice xpa xnp xpc) xn (.slice xfa xnf xfc)
    simp only [alloc_hs] at this
    exact (this.keep ((Below.refl _ _).alloc (Nat.le_refl _) _)).keep ((Below.refl _ _).alloc (Nat.le_refl _) _))
  have HBY := Lib.hid (show BoxAt W (g + 2) ya yf yp (.slice ypa ynp ypc) yn (.slice yfa ynf yfc) by
    rw [hW, hg]; have := BoxAt.made ((w.alloc (.cells #[.pointer (some ⟨c, 0, none⟩)] 88)).alloc (.cells #[.bool xa, .int .i64 xf, .int .i64 xp, (.slice xpa xnp xpc), .int .i64 xn, (.slice xfa xnf xfc)] 49)) ya yf yp (.slice ypa ynp ypc) yn (.slice yfa ynf yfc)
    simp only [alloc_hs] at this
    exact this.keep ((Below.refl _ _).alloc (Nat.le_refl _) _))
  have HV2 := Lib.hid (show VarIs W (g + 3) 3 (.int .i64 d) by
    rw [hW, hg]; have := VarIs.made (((w.alloc (.cells #[.pointer (some ⟨c, 0, none⟩)] 88)).alloc (.cells #[.bool xa, .int .i64 xf, .int .i64 xp, (.slice xpa xnp xpc), .int .i64 xn, (.slice xfa xnf xfc)] 49)).alloc (.cells #[.bool ya, .int .i64 yf, .int .i64 yp, (.slice ypa ynp ypc), .int .i64 yn, (.slice yfa ynf yfc)] 49)) 3 (.int .i64 (d : Int))
    simp only [alloc_hs] at this
    exact this)
  have HW := Lib.hid hW
  have HC := Lib.hid hcall
  have HON := Lib.hid (hon W HBW.out)
  have HNE := Lib.hid (show g ≠ c ∧ g + 3 ≠ c by omega)
  clear hcall hon hW hg hsz hk hd ih hx hy hsx hclt hw xhp xhf xhnp xhnf xha xhf' xhp' xhn yhp yhf yhnp yhnf yha yhf' yhp' yhn
  go_enter Try.func80, Try.ntmps80
  go_wp2_with fail
  rw [← HG.out, ← HW.out]
  refine HON.out.mono ?_
  rintro e w2 ⟨rfl, hs2, hc2⟩
  have b1 := HBX.out.stay hs2 (by have := HG.out; have := HCL.out; omega)
  have b2 := HBY.out.stay hs2 (by have := HG.out; have := HCL.out; omega)
  have x0 := b1.c0
  have x1 := b1.c1
  have x2 := b1.c2
  have x3 := b1.c3
  have x4 := b1.c4
  have x5 := b1.c5
  have y0 := b2.c0
  have y1 := b2.c1
  have y2 := b2.c2
  have y3 := b2.c3
  have y4 := b2.c4
  have y5 := b2.c5
  have HC2 := Lib.hid (HC.out w2 g (g + 3) ((Stay.of HBW.out).trans hs2) hc2 HNE.out.1 HNE.out.2 (HV1.out.stay hs2 HNE.out.1) (HV2.out.stay hs2 HNE.out.2))
  clear hs2 hc2 b1 b2
  go_wp2_with fail
  refine HC2.out.mono ?_
  rintro e w3 ⟨rfl, hb3⟩
  go_wp2
  go_ret
  exact ⟨rfl, hb3⟩

theorem ws_any (x y : Ty) (vx vy : Value) (w : World) (c k d : Nat) (hk : k + szT x ≤ 131072) (hd : d + szT x ≤ 1024) (hw : WalkAt c k w) (hx : TyVN (· = c) w vx x) (hy : TyVN (· = c) w vy y) :
    Calls Try.prog 80 #[.pointer (some ⟨c, 0, none⟩), vx, vy, .int .i64 d] w fun e w' => e = .returned (.bool (sameT x y)) ∧ Stay (· = c) w w' ∧ ∃ k', k' ≤ k + szT x ∧ WalkAt c k' w' := by
  have key : ∀ n, WSok n := by
    intro n
    induction n with
    | zero => intro x y vx vy w c k d h; have := szT_pos x; omega
    | succ n ih => exact ws_succ n ih
  exact key _ x y vx vy w c k d (Nat.le_refl _) hk hd hw hx hy
end Go.Proofs.Ytgjkobkcmgliaaa
