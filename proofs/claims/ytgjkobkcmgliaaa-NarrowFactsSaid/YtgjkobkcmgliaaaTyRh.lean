import Derived.Test.YtgjkobkcmgliaaaTyRf
import Derived.Test.YtgjkobkcmgliaaaTyW
namespace Go.Proofs.Ytgjkobkcmgliaaa
open Go.RowKit

set_option maxRecDepth 100000 in
set_option maxHeartbeats 8000000 in
theorem fails_clo {N : Nat → Prop} {S : World → World → Prop} {k : Nat} {lb : Array Value} {z : Bool} (x : Ty) (vx : Value) (w : World) (c : Nat) (eg : ∀ (args : Array Value) (w : World), (callFunc k args).run Try.prog w = .ok (.enter k args) w)
    (h1 : VarIs w c 47 (.func (.func k) #[] lb)) (hx : TyVN N w vx x)
    (hcall : ∀ w1, Below w.heap.size w w1 → TyVN N w1 vx x → Calls Try.prog k (#[vx] ++ lb) w1 fun e w' => e = .returned (.bool z) ∧ S w w') :
    Calls Try.prog 74 #[vx, .pointer (some ⟨c, 0, none⟩)] w fun e w' => e = .returned (.bool (!z)) ∧ S w w' := by
  have hcc : ∀ w1, Below w.heap.size w w1 → Calls Try.prog k (#[vx] ++ lb) w1 fun e w' => e = .returned (.bool z) ∧ S w w' := fun w1 hb => hcall w1 hb (hx.below hb)
  obtain ⟨xpa, xpc, xfa, xfc, rfl, xhp, xhf⟩ := hx.form
  obtain ⟨xnp, xhnp⟩ : ∃ n, n = x.pairs.length := ⟨_, rfl⟩
  obtain ⟨xnf, xhnf⟩ : ∃ n, n = x.funs.length := ⟨_, rfl⟩
  obtain ⟨xa, xha⟩ : ∃ a, a = x.all := ⟨_, rfl⟩
  obtain ⟨xf, xhf'⟩ : ∃ a, a = x.flat := ⟨_, rfl⟩
  obtain ⟨xp, xhp'⟩ : ∃ a, a = x.pair := ⟨_, rfl⟩
  obtain ⟨xn, xhn⟩ : ∃ a, a = x.fn := ⟨_, rfl⟩
  rw [← xhnp, ← xhnf, ← xha, ← xhf', ← xhp', ← xhn] at hcc ⊢
  obtain ⟨W, hW⟩ : ∃ W, W = w.alloc (.cells #[.bool xa, .int .i64 xf, .int .i64 xp, (.slice xpa xnp xpc), .int .i64 xn, (.slice xfa xnf xfc)] 49) := ⟨_, rfl⟩
  have HBW := Lib.hid (show Below w.heap.size w W by rw [hW]; exact (Below.refl _ _).alloc (Nat.le_refl _) _)
  have k1 := (h1.keep HBW.out).c
  rw [hW] at k1
  have HC := Lib.hid (hcc W HBW.out)
  have HW := Lib.hid hW
  clear hcall hcc hW h1 hx xhp xhf xhnp xhnf xha xhf' xhp' xhn
  go_enter Try.func74, Try.ntmps74
  go_wp2_with fail
  rw [← HW.out]
  refine HC.out.mono ?_
  rintro e w2 ⟨rfl, hb2⟩
  go_wp2
  go_ret
  exact ⟨rfl, hb2⟩

set_option maxRecDepth 100000 in
set_option maxHeartbeats 8000000 in
theorem holds_any {N : Nat → Prop} {St : Nat → World → Prop} {k : Nat} {lb : Array Value} {W0 : World} {R : Ty → Prop} {P : Ty → Bool} {cost : Ty → Nat} {lim : Nat} (F : Fn1 N St k lb W0 R P cost lim)
    (x : Ty) (vx : Value) (w : World) (n : Nat) (hNw : ∀ b, N b → b < w.heap.size) (hw : Stay N W0 w) (hst : St n w) (hx : TyVN N w vx x)
    (hRp : ∀ j, j < x.pairs.length → R (x.pairs.getD j ty0)) (hRf : ∀ j, j < x.funs.length → R (x.funs.getD j ty0)) (hc : n + preD cost x.pairs x.pairs.length + preD cost x.funs x.funs.length ≤ lim) :
    Calls Try.prog 58 #[vx, .func (.func k) #[] lb] w
      fun e w' => e = .returned (.bool (x.pairs.all P && x.funs.all P)) ∧ Stay N w w' ∧ ∃ n', n' ≤ n + preD cost x.pairs x.pairs.length + preD cost x.funs x.funs.length ∧ St n' w' := by
  have hmf : ∀ (fn : Fn) (first cap : Array Value) (w : World), (Instr.makeFunc fn first cap).run Try.prog w = .ok (.func fn first cap) w := fun _ _ _ _ => rfl
  have hkeep := F.keep
  have hF1 : ∀ (w1 : World) (c : Nat), Stay N w w1 → ¬ N c → VarIs w1 c 47 (.func (.func k) #[] lb) → Fn1 N St 74 #[.pointer (some ⟨c, 0, none⟩)] w1 R (fun x => !P x) cost lim := fun w1 c h1 hcN hv => by
    refine ⟨F.keep, fun _ _ => rfl, ?_⟩
    intro w2 v1 x' n' hs hs2 hlim hR h1'
    refine fails_clo (S := fun a b => Stay N a b ∧ ∃ n1, n1 ≤ n' + cost x' ∧ St n1 b) x' v1 w2 c F.enter (hv.stay hs hcN) h1' fun w3 hb h3 => ?_
    refine (F.call w3 v1 x' n' ((hw.trans (h1.trans hs)).then hb) (F.keep _ _ _ hs2 hb) hlim hR h3).mono ?_
    rintro e w4 ⟨he, h4, h5⟩
    exact ⟨he, (Stay.of hb).trans h4, h5⟩
  have hnall : ∀ l : List Ty, (!(l.any fun x => !P x)) = l.all P := fun l => by
    induction l with
    | nil => rfl
    | cons a r ih => simp only [List.any_cons, List.all_cons, ← ih]; cases P a <;> simp
  obtain ⟨xpa, xpc, xfa, xfc, rfl, xhp, xhf⟩ := hx.form
  obtain ⟨xnp, xhnp⟩ : ∃ n, n = x.pairs.length := ⟨_, rfl⟩
  obtain ⟨xnf, xhnf⟩ : ∃ n, n = x.funs.length := ⟨_, rfl⟩
  obtain ⟨xa, xha⟩ : ∃ a, a = x.all := ⟨_, rfl⟩
  obtain ⟨xf, xhf'⟩ : ∃ a, a = x.flat := ⟨_, rfl⟩
  obtain ⟨xp, xhp'⟩ : ∃ a, a = x.pair := ⟨_, rfl⟩
  obtain ⟨xn, xhn⟩ : ∃ a, a = x.fn := ⟨_, rfl⟩
  have hP : ∀ (w1 : World) (c : Nat), Stay N w w1 → ¬ N c → VarIs w1 c 47 (.func (.func k) #[] lb) → St n w1 → Calls Try.prog 75 #[.slice xpa x.pairs.length xpc, .func (.func 74) #[] #[.pointer (some ⟨c, 0, none⟩)]] w1
      fun e w' => e = .returned (.bool (x.pairs.any fun x => !P x)) ∧ Stay N w1 w' ∧ ∃ n', n' ≤ n + preD cost x.pairs x.pairs.length ∧ St n' w' := fun w1 c h1 hcN hv h2 =>
    containsf_any (hF1 w1 c h1 hcN hv) x.pairs _ _ w1 n .refl h2 (TySN.stay xhp h1) hRp (by omega)
  have hQ : ∀ (w1 : World) (c n1 : Nat), Stay N w w1 → ¬ N c → VarIs w1 c 47 (.func (.func k) #[] lb) → n1 ≤ n + preD cost x.pairs x.pairs.length → St n1 w1 → Calls Try.prog 75 #[.slice xfa x.funs.length xfc, .func (.func 74) #[] #[.pointer (some ⟨c, 0, none⟩)]] w1
      fun e w' => e = .returned (.bool (x.funs.any fun x => !P x)) ∧ Stay N w1 w' ∧ ∃ n', n' ≤ n1 + preD cost x.funs x.funs.length ∧ St n' w' := fun w1 c n1 h1 hcN hv hn1 h2 =>
    containsf_any (hF1 w1 c h1 hcN hv) x.funs _ _ w1 n1 .refl h2 (TySN.stay xhf h1) hRf (by omega)
  have hz1 := hnall x.pairs
  have hz2 := hnall x.funs
  generalize preD cost x.pairs x.pairs.length = c1 at hP hQ hc ⊢
  generalize preD cost x.funs x.funs.length = c2 at hQ hc ⊢
  generalize x.pairs.all P = z1 at hz1 ⊢
  generalize x.funs.all P = z2 at hz2 ⊢
  generalize (x.pairs.any fun x => !P x) = y1 at hP hz1
  generalize (x.funs.any fun x => !P x) = y2 at hQ hz2
  rw [← xhnp] at hP
  rw [← xhnf] at hQ
  rw [← xhnp, ← xhnf, ← xha, ← xhf', ← xhp', ← xhn]
  obtain ⟨g, hg⟩ : ∃ g, g = w.heap.size := ⟨_, rfl⟩
  obtain ⟨W, hW⟩ : ∃ W, W = (w.alloc (.cells #[.bool xa, .int .i64 xf, .int .i64 xp, (.slice xpa xnp xpc), .int .i64 xn, (.slice xfa xnf xfc)] 49)).alloc (.cells #[.func (.func k) #[] lb] 47) := ⟨_, rfl⟩
  have HBW := Lib.hid (show Below w.heap.size w W by rw [hW]; exact ((Below.refl _ _).alloc (Nat.le_refl _) _).alloc (by simp) _)
  have HBX := Lib.hid (show BoxAt W g xa xf xp (.slice xpa xnp xpc) xn (.slice xfa xnf xfc) by rw [hW, hg]; exact (BoxAt.made _ _ _ _ _ _ _).keep ((Below.refl _ _).alloc (Nat.le_refl _) _))
  have hV : VarIs W (g + 1) 47 (.func (.func k) #[] lb) := by rw [hW, hg]; have := VarIs.made (w.alloc (.cells #[.bool xa, .int .i64 xf, .int .i64 xp, (.slice xpa xnp xpc), .int .i64 xn, (.slice xfa xnf xfc)] 49)) 47 (.func (.func k) #[] lb); simp only [alloc_hs] at this; exact this
  have hn1 : ¬ N (g + 1) := fun h => by have := hNw _ h; omega
  have hn0 : ¬ N g := fun h => by have := hNw _ h; omega
  have HP := Lib.hid (hP W (g + 1) (.of HBW.out) hn1 hV (hkeep _ _ _ hst HBW.out))
  have HQ := Lib.hid (fun w2 n2 h1 (h3 : Stay N W w2) h4 h5 => hQ w2 (g + 1) n2 h1 hn1 (hV.stay h3 hn1) h4 h5)
  have HN0 := Lib.hid hn0
  have HZ1 := Lib.hid hz1
  have HZ2 := Lib.hid hz2
  have HW := Lib.hid hW
  have HG := Lib.hid hg
  clear hP hQ hz1 hz2 hW hg hV hn1 hn0 hF1 hnall hkeep hst hw hNw hRp hRf hc hx F xhp xhf xhnp xhnf xha xhf' xhp' xhn
  go_enter Try.func58, Try.ntmps58
  go_wp2_with fail
  rw [← HG.out, ← HW.out]
  refine HP.out.mono ?_
  rintro e w2 ⟨rfl, hs2, n2, hn2, ht2⟩
  have HS2 := Lib.hid ((Stay.of HBW.out).trans hs2)
  have HX2 := Lib.hid (HBX.out.stay hs2 HN0.out)
  have HQ2 := Lib.hid (HQ.out w2 n2 HS2.out hs2 hn2 ht2)
  have HN2 := Lib.hid hn2
  have HT2 := Lib.hid ht2
  clear hs2 hn2 ht2
  cases y1 with
  | true =>
    go_wp2
    go_ret
    exact ⟨ret_bool (by rw [← HZ1.out]; rfl), HS2.out, n2, by have := HN2.out; omega, HT2.out⟩
  | false =>
    have x0 := HX2.out.c0
    have x1 := HX2.out.c1
    have x2 := HX2.out.c2
    have x3 := HX2.out.c3
    have x4 := HX2.out.c4
    have x5 := HX2.out.c5
    go_wp2_with fail
    refine HQ2.out.mono ?_
    rintro e w3 ⟨rfl, hs3, n3, hn3, ht3⟩
    have HS3 := Lib.hid (HS2.out.trans hs3)
    have HN3 := Lib.hid hn3
    have HT3 := Lib.hid ht3
    clear hs3 hn3 ht3
    go_wp2
    go_ret
    exact ⟨ret_bool (by rw [← HZ1.out, ← HZ2.out]; rfl), HS3.out, n3, by have := HN2.out; have := HN3.out; omega, HT3.out⟩
end Go.Proofs.Ytgjkobkcmgliaaa
