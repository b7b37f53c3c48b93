import Derived.Test.YtdjhjapfmbcmlaaDoorTyS
namespace Go.Proofs.YtdjhjapfmbcmlaaDoor
open Go.RowKit

def SWok (n : Nat) : Prop := ∀ (x y : Ty) (vx vy : Value) (w : World) (d : Nat), szT x ≤ n → d + szT x ≤ 131072 → TyV w vx x → TyV w vy y →
    Calls Tryd.prog 36 #[vx, vy, .int .i64 d] w fun e w' => e = .returned (.bool (sameT x y)) ∧ Below w.heap.size w w'

set_option maxRecDepth 100000 in
set_option maxHeartbeats 8000000 in
theorem sw_clo (n : Nat) (ih : SWok n) (x y : Ty) (vx vy : Value) (w : World) (d c : Nat) (hsz : szT x ≤ n) (hd : d + 1 + szT x ≤ 131072) (hc : VarIs w c 3 (.int .i64 d)) (hx : TyV w vx x) (hy : TyV w vy y) :
    Calls Tryd.prog 48 #[vx, vy, .pointer (some ⟨c, 0, none⟩)] w fun e w' => e = .returned (.bool (sameT x y)) ∧ Below w.heap.size w w' := by
  have hcall : ∀ w1, Below w.heap.size w w1 → Calls Tryd.prog 36 #[vx, vy, .int .i64 ((d : Int) + 1)] w1 fun e w' => e = .returned (.bool (sameT x y)) ∧ Below w.heap.size w w' := fun w1 h1 =>
    (ih x y vx vy w1 (d + 1) hsz hd (hx.below h1) (hy.below h1)).mono fun e w' h => ⟨h.1, h1.trans (h.2.mono h1.size)⟩
  obtain ⟨xpa, xpc, xfa, xfc, rfl, xhp, xhf⟩ := hx.form
  obtain ⟨xnp, xhnp⟩ : ∃ n, n = x.pairs.length := ⟨_, rfl⟩
  obtain ⟨xnf, xhnf⟩ : ∃ n, n = x.funs.length := ⟨_, rfl⟩
  obtain ⟨xa, xha⟩ : ∃ a, a = x.all := ⟨_, rfl⟩
  obtain ⟨xf, xhf'⟩ : ∃ a, a = x.flat := ⟨_, rfl⟩
  obtain ⟨xp, xhp'⟩ : ∃ a, a = x.pair := ⟨_, rfl⟩
  obtain ⟨xn, xhn⟩ : ∃ a, a = x.fn := ⟨_, rfl⟩
  obtain ⟨ypa, ypc, yfa, yfc, rfl, yhp, yhf⟩ := hy.form
  obtain ⟨ynp, yhnp⟩ : ∃ n, n = y.pairs.length := ⟨_, rfl⟩
  obtain ⟨ynf, yhnf⟩ : ∃ n, n = y.funs.length := ⟨_, rfl⟩
  obtain ⟨ya, yha⟩ : ∃ a, a = y.all := ⟨_, rfl⟩
  obtain ⟨yf, yhf'⟩ : ∃ a, a = y.flat := ⟨_, rfl⟩
  obtain ⟨yp, yhp'⟩ : ∃ a, a = y.pair := ⟨_, rfl⟩
  obtain ⟨yn, yhn⟩ : ∃ a, a = y.fn := ⟨_, rfl⟩
  generalize sameT x y = z at hcall ⊢
  rw [← xhnp, ← xhnf, ← xha, ← xhf', ← xhp', ← xhn, ← yhnp, ← yhnf, ← yha, ← yhf', ← yhp', ← yhn] at hcall ⊢
  obtain ⟨W, hW⟩ : ∃ W, W = (w.alloc (.cells #[.bool xa, .int .i64 xf, .int .i64 xp, (.slice xpa xnp xpc), .int .i64 xn, (.slice xfa xnf xfc)] 24)).alloc (.cells #[.bool ya, .int .i64 yf, .int .i64 yp, (.slice ypa ynp ypc), .int .i64 yn, (.slice yfa ynf yfc)] 24) := ⟨_, rfl⟩
  obtain ⟨g, hg⟩ : ∃ g, g = w.heap.size := ⟨_, rfl⟩
  have HBX := Lib.hid (show BoxAt W g xa xf xp (.slice xpa xnp xpc) xn (.slice xfa xnf xfc) by rw [hW, hg]; exact (BoxAt.made _ _ _ _ _ _ _).keep ((Below.refl _ _).alloc (Nat.le_refl _) _))
  have HBY := Lib.hid (show BoxAt W (g + 1) ya yf yp (.slice ypa ynp ypc) yn (.slice yfa ynf yfc) by rw [hW, hg]; have := BoxAt.made (w.alloc (.cells #[.bool xa, .int .i64 xf, .int .i64 xp, (.slice xpa xnp xpc), .int .i64 xn, (.slice xfa xnf xfc)] 24)) ya yf yp (.slice ypa ynp ypc) yn (.slice yfa ynf yfc); simpa using this)
  have HBW := Lib.hid (show Below w.heap.size w W by rw [hW]; exact ((Below.refl _ _).alloc (Nat.le_refl _) _).alloc (by simp) _)
  have HG := Lib.hid hg
  have HW := Lib.hid hW
  have hcw := (hc.keep HBW.out).c
  rw [HW.out] at hcw
  have hd2 : (d : Int) ≤ 131072 := by omega
  have HC := Lib.hid hcall
  clear hcall hW hg hc hd hsz ih hx hy xhp xhf xhnp xhnf xha xhf' xhp' xhn yhp yhf yhnp yhnf yha yhf' yhp' yhn
  go_enter Tryd.func48, Tryd.ntmps48
  go_wp2_with fail
  rw [← HW.out]
  refine (HC.out W HBW.out).mono ?_
  rintro e w2 ⟨rfl, hb2⟩
  go_wp2
  go_ret
  exact ⟨rfl, hb2⟩

set_option maxRecDepth 100000 in
set_option maxHeartbeats 8000000 in
theorem sw_succ (n : Nat) (ih : SWok n) : SWok (n + 1) := by
  intro x y vx vy w d hsz hd hx hy
  have hmf : ∀ (fn : Fn) (first cap : Array Value) (w : World), (Instr.makeFunc fn first cap).run Tryd.prog w = .ok (.func fn first cap) w := fun _ _ _ _ => rfl
  have hcall : ∀ (w1 : World) (c : Nat), Below w.heap.size w w1 → VarIs w1 c 3 (.int .i64 d) → Calls Tryd.prog 47 #[vx, vy, .func (.func 48) #[] #[.pointer (some ⟨c, 0, none⟩)]] w1
      fun e w' => e = .returned (.bool (sameT x y)) ∧ Below w.heap.size w w' := fun w1 c h1 hc => by
    have F : Fn2 (fun _ => False) (fun _ _ => True) 48 #[.pointer (some ⟨c, 0, none⟩)] w1 (fun x' _ => szT x' < szT x) sameT (fun _ _ => 0) 0 := by
      refine ⟨fun _ _ _ _ _ => trivial, fun _ _ => rfl, ?_⟩
      intro w2 v1 v2 x' y' n' hs _ _ hR h1' h2'
      refine (sw_clo n ih x' y' v1 v2 w2 d c (by omega) (by omega) (hc.stay hs id) h1'.v h2'.v).mono ?_
      rintro e w3 ⟨he, hb⟩
      exact ⟨he, .of hb, n', by omega, trivial⟩
    refine (sameBy_any F (fun _ h => h.elim) x y vx vy w1 0 .refl trivial (hx.below h1).n (hy.below h1).n (fun _ j hj => szT_pair x j hj) (fun _ j hj => szT_fun x j hj) ?_).mono ?_
    · simp [sameByC, preC_zero]
    · rintro e w3 ⟨he, hs, _⟩
      rw [sameByP_same] at he
      exact ⟨he, h1.trans (hs.none.mono h1.size)⟩
  obtain ⟨xpa, xpc, xfa, xfc, rfl, xhp, xhf⟩ := hx.form
  obtain ⟨xnp, xhnp⟩ : ∃ n, n = x.pairs.length := ⟨_, rfl⟩
  obtain ⟨xnf, xhnf⟩ : ∃ n, n = x.funs.length := ⟨_, rfl⟩
  obtain ⟨xa, xha⟩ : ∃ a, a = x.all := ⟨_, rfl⟩
  obtain ⟨xf, xhf'⟩ : ∃ a, a = x.flat := ⟨_, rfl⟩
  obtain ⟨xp, xhp'⟩ : ∃ a, a = x.pair := ⟨_, rfl⟩
  obtain ⟨xn, xhn⟩ : ∃ a, a = x.fn := ⟨_, rfl⟩
  obtain ⟨ypa, ypc, yfa, yfc, rfl, yhp, yhf⟩ := hy.form
  obtain ⟨ynp, yhnp⟩ : ∃ n, n = y.pairs.length := ⟨_, rfl⟩
  obtain ⟨ynf, yhnf⟩ : ∃ n, n = y.funs.length := ⟨_, rfl⟩
  obtain ⟨ya, yha⟩ : ∃ a, a = y.all := ⟨_, rfl⟩
  obtain ⟨yf, yhf'⟩ : ∃ a, a = y.flat := ⟨_, rfl⟩
  obtain ⟨yp, yhp'⟩ : ∃ a, a = y.pair := ⟨_, rfl⟩
  obtain ⟨yn, yhn⟩ : ∃ a, a = y.fn := ⟨_, rfl⟩
  generalize sameT x y = z at hcall ⊢
  rw [← xhnp, ← xhnf, ← xha, ← xhf', ← xhp', ← xhn, ← yhnp, ← yhnf, ← yha, ← yhf', ← yhp', ← yhn] at hcall ⊢
  obtain ⟨W, hW⟩ : ∃ W, W = ((w.alloc (.cells #[.bool xa, .int .i64 xf, .int .i64 xp, (.slice xpa xnp xpc), .int .i64 xn, (.slice xfa xnf xfc)] 24)).alloc (.cells #[.bool ya, .int .i64 yf, .int .i64 yp, (.slice ypa ynp ypc), .int .i64 yn, (.slice yfa ynf yfc)] 24)).alloc (.cells #[.int .i64 (d : Int)] 3) := ⟨_, rfl⟩
  have HBW := Lib.hid (show Below w.heap.size w W by rw [hW]; exact (((Below.refl _ _).alloc (Nat.le_refl _) _).alloc (by simp) _).alloc (by simp; omega) _)
  have HV := Lib.hid (show VarIs W (w.heap.size + 1 + 1) 3 (.int .i64 d) by rw [hW]; have := VarIs.made ((w.alloc (.cells #[.bool xa, .int .i64 xf, .int .i64 xp, (.slice xpa xnp xpc), .int .i64 xn, (.slice xfa xnf xfc)] 24)).alloc (.cells #[.bool ya, .int .i64 yf, .int .i64 yp, (.slice ypa ynp ypc), .int .i64 yn, (.slice yfa ynf yfc)] 24)) 3 (.int .i64 d); simpa using this)
  have HW := Lib.hid hW
  have hd2 : (d : Int) ≤ 131072 := by omega
  have HC := Lib.hid hcall
  clear hcall hW hd hsz ih hx hy xhp xhf xhnp xhnf xha xhf' xhp' xhn yhp yhf yhnp yhnf yha yhf' yhp' yhn
  go_enter Tryd.func36, Tryd.ntmps36
  go_wp2_with fail
  rw [← HW.out]
  refine (HC.out W _ HBW.out HV.out).mono ?_
  rintro e w2 ⟨rfl, hb2⟩
  go_wp2
  go_ret
  exact ⟨rfl, hb2⟩

theorem sw_any (x y : Ty) (vx vy : Value) (w : World) (d : Nat) (hd : d + szT x ≤ 131072) (hx : TyV w vx x) (hy : TyV w vy y) :
    Calls Tryd.prog 36 #[vx, vy, .int .i64 d] w fun e w' => e = .returned (.bool (sameT x y)) ∧ Below w.heap.size w w' := by
  have key : ∀ n, SWok n := by
    intro n
    induction n with
    | zero => intro x y vx vy w d h; have := szT_pos x; omega
    | succ n ih => exact sw_succ n ih
  exact key _ x y vx vy w d (Nat.le_refl _) hd hx hy

set_option maxRecDepth 100000 in
set_option maxHeartbeats 8000000 in
theorem same_p (x y : Ty) (vx vy : Value) (w : World) (hd : szT x ≤ 131072) (hx : TyV w vx x) (hy : TyV w vy y) :
    Calls Tryd.prog 12 #[vx, vy] w fun e w' => e = .returned (.bool (sameT x y)) ∧ Below w.heap.size w w' := by
  have hcall : ∀ w1, Below w.heap.size w w1 → Calls Tryd.prog 36 #[vx, vy, .int .i64 0] w1 fun e w' => e = .returned (.bool (sameT x y)) ∧ Below w.heap.size w w' := fun w1 h1 =>
    (sw_any x y vx vy w1 0 (by omega) (hx.below h1) (hy.below h1)).mono fun e w' h => ⟨h.1, h1.trans (h.2.mono h1.size)⟩
  obtain ⟨xpa, xpc, xfa, xfc, rfl, xhp, xhf⟩ := hx.form
  obtain ⟨xnp, xhnp⟩ : ∃ n, n = x.pairs.length := ⟨_, rfl⟩
  obtain ⟨xnf, xhnf⟩ : ∃ n, n = x.funs.length := ⟨_, rfl⟩
  obtain ⟨xa, xha⟩ : ∃ a, a = x.all := ⟨_, rfl⟩
  obtain ⟨xf, xhf'⟩ : ∃ a, a = x.flat := ⟨_, rfl⟩
  obtain ⟨xp, xhp'⟩ : ∃ a, a = x.pair := ⟨_, rfl⟩
  obtain ⟨xn, xhn⟩ : ∃ a, a = x.fn := ⟨_, rfl⟩
  obtain ⟨ypa, ypc, yfa, yfc, rfl, yhp, yhf⟩ := hy.form
  obtain ⟨ynp, yhnp⟩ : ∃ n, n = y.pairs.length := ⟨_, rfl⟩
  obtain ⟨ynf, yhnf⟩ : ∃ n, n = y.funs.length := ⟨_, rfl⟩
  obtain ⟨ya, yha⟩ : ∃ a, a = y.all := ⟨_, rfl⟩
  obtain ⟨yf, yhf'⟩ : ∃ a, a = y.flat := ⟨_, rfl⟩
  obtain ⟨yp, yhp'⟩ : ∃ a, a = y.pair := ⟨_, rfl⟩
  obtain ⟨yn, yhn⟩ : ∃ a, a = y.fn := ⟨_, rfl⟩
  generalize sameT x y = z at hcall ⊢
  rw [← xhnp, ← xhnf, ← xha, ← xhf', ← xhp', ← xhn, ← yhnp, ← yhnf, ← yha, ← yhf', ← yhp', ← yhn] at hcall ⊢
  obtain ⟨W, hW⟩ : ∃ W, W = (w.alloc (.cells #[.bool xa, .int .i64 xf, .int .i64 xp, (.slice xpa xnp xpc), .int .i64 xn, (.slice xfa xnf xfc)] 24)).alloc (.cells #[.bool ya, .int .i64 yf, .int .i64 yp, (.slice ypa ynp ypc), .int .i64 yn, (.slice yfa ynf yfc)] 24) := ⟨_, rfl⟩
  obtain ⟨g, hg⟩ : ∃ g, g = w.heap.size := ⟨_, rfl⟩
  have HBX := Lib.hid (show BoxAt W g xa xf xp (.slice xpa xnp xpc) xn (.slice xfa xnf xfc) by rw [hW, hg]; exact (BoxAt.made _ _ _ _ _ _ _).keep ((Below.refl _ _).alloc (Nat.le_refl _) _))
  have HBY := Lib.hid (show BoxAt W (g + 1) ya yf yp (.slice ypa ynp ypc) yn (.slice yfa ynf yfc) by rw [hW, hg]; have := BoxAt.made (w.alloc (.cells #[.bool xa, .int .i64 xf, .int .i64 xp, (.slice xpa xnp xpc), .int .i64 xn, (.slice xfa xnf xfc)] 24)) ya yf yp (.slice ypa ynp ypc) yn (.slice yfa ynf yfc); simpa using this)
  have HBW := Lib.hid (show Below w.heap.size w W by rw [hW]; exact ((Below.refl _ _).alloc (Nat.le_refl _) _).alloc (by simp) _)
  have HG := Lib.hid hg
  have HW := Lib.hid hW
  have HC := Lib.hid hcall
  clear hcall hW hg hd hx hy xhp xhf xhnp xhnf xha xhf' xhp' xhn yhp yhf yhnp yhnf yha yhf' yhp' yhn
  go_enter Tryd.func12, Tryd.ntmps12
  go_wp2_with fail
  rw [← HW.out]
  refine (HC.out W HBW.out).mono ?_
  rintro e w2 ⟨rfl, hb2⟩
  go_wp2
  go_ret
  exact ⟨rfl, hb2⟩
end Go.Proofs.YtdjhjapfmbcmlaaDoor
