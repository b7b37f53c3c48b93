import Derived.Test.YtgjkobkcmgliaaaTySf
import Derived.Test.YtgjkobkcmgliaaaTyJ
namespace Go.Proofs.Ytgjkobkcmgliaaa
open Go.RowKit

abbrev mulC : Ty → Ty → Nat := fun x y => szT x * szT y
theorem andNot_nat : ∀ F, F < 64 → ∀ G, G < 64 → (bits .andNot .i64 ((F : Nat) : Int) ((G : Nat) : Int) == 0) = flatSub ((F : Nat) : Int) ((G : Nat) : Int) := by decide +kernel
theorem andNot_sub {f g : Int} (h0 : 0 ≤ f) (h1 : f ≤ 63) (h2 : 0 ≤ g) (h3 : g ≤ 63) : (bits .andNot .i64 f g == 0) = flatSub f g := by
  obtain ⟨F, rfl⟩ := Int.eq_ofNat_of_zero_le h0
  obtain ⟨G, rfl⟩ := Int.eq_ofNat_of_zero_le h2
  exact andNot_nat F (by omega) G (by omega)
theorem subP_eq {x y : Ty} (hx : okTy x) (hy : okTy y) (ax : x.all = false) (ay : y.all = false) : subT x y = (flatSub x.flat y.flat && subPairsP subT x y && subFunsP subT x y) := by
  rw [subT_eq hx hy, ax, ay]
  simp only [Bool.false_or, Bool.not_false, Bool.true_and]
  congr 1
  · congr 1
    unfold subPairsP
    rcases pair_cases hx with h | h | h <;> rcases pair_cases hy with h' | h' | h' <;> simp [h, h']
  · unfold subFunsP
    have px := ok_funs hx.hd
    have py := ok_funs hy.hd
    rcases px with ⟨h, e⟩ | ⟨h, e1, e2⟩ | ⟨h, e⟩ <;> rcases py with ⟨h', e'⟩ | ⟨h', e1', e2'⟩ | ⟨h', e'⟩
    · simp [h]
    · simp [h]
    · simp [h]
    · simp [h, h']
    · by_cases hl : x.funs.length = y.funs.length <;> simp [h, h', hl]
    · simp [h, h']
    · simp [h, h']
    · have : ¬ (x.funs.length = y.funs.length) := by omega
      simp [h, h', this]
    · simp [h, h']
theorem szTs_take (l : List Ty) (k : Nat) (h : k < l.length) : szTs (l.take (k + 1)) = szTs (l.take k) + szT (l.getD k ty0) := by
  induction l generalizing k with
  | nil => simp at h
  | cons d r ih =>
    cases k with
    | zero => simp [szTs]
    | succ k =>
      have := ih k (by simpa using h)
      simp only [List.take_succ_cons, szTs, List.getD_cons_succ] at this ⊢
      omega
theorem preC_mul (l m : List Ty) : ∀ k, k ≤ l.length → k ≤ m.length → preC mulC l m k ≤ szTs (l.take k) * szTs (m.take k) := by
  intro k
  induction k with
  | zero => intro _ _; rw [preC]; omega
  | succ k ih =>
    intro h h'
    have := ih (by omega) (by omega)
    rw [preC, szTs_take l k (by omega), szTs_take m k (by omega), Nat.add_mul, Nat.mul_add, Nat.mul_add]
    show _ + szT _ * szT _ ≤ _
    omega
theorem subFunsC_le (x y : Ty) (hy : okTy y) : subFunsC mulC x y ≤ szTs x.funs * szTs y.funs := by
  unfold subFunsC
  split
  · omega
  · rename_i h0
    split
    · omega
    · rename_i h1
      have hlen : x.funs.length = y.funs.length := Decidable.byContradiction fun h => h1 (.inr h)
      have hpos : 1 ≤ x.funs.length := by
        have py := ok_funs hy.hd
        have e0 : ¬ y.fn = 2 := fun h => h0 (.inr h)
        have e1 : ¬ y.fn = 0 := fun h => h1 (.inl h)
        omega
      have h2 := preC_mul y.funs x.funs (x.funs.length - 1) (by omega) (by omega)
      have h3 := szTs_take x.funs (x.funs.length - 1) (by omega)
      have h4 := szTs_take y.funs (x.funs.length - 1) (by omega)
      rw [show x.funs.length - 1 + 1 = x.funs.length by omega, List.take_length] at h3
      rw [show x.funs.length - 1 + 1 = y.funs.length by omega, List.take_length] at h4
      rw [h3, h4, Nat.add_mul, Nat.mul_add, Nat.mul_add]
      show _ + szT _ * szT _ ≤ _
      rw [Nat.mul_comm (szTs (y.funs.take _))] at h2
      omega

theorem subPairsC_le (x y : Ty) (hx : okTy x) (hy : okTy y) (ax : x.all = false) (ay : y.all = false) : subPairsC mulC x y ≤ szTs x.pairs * szTs y.pairs + szTs x.pairs + szTs y.pairs := by
  unfold subPairsC
  split
  · omega
  · rename_i h0
    show szT _ * szT _ + (if _ then 0 else szT _ * szT _) ≤ _
    rcases pair_cases hx with h | h | h
    · exact absurd (.inl h) h0
    · rcases pair_cases hy with h' | h' | h'
      · exact absurd (.inr h') h0
      · rw [pair1 hx ax h, pair1 hy ay h', if_neg (by omega)]
        simp only [szTs, Nat.add_zero, Nat.add_mul, Nat.mul_add]
        omega
      · rw [pair1 hx ax h, pair2 hy ay h', cdr_list hy ay h', if_neg (by omega), szT_list]
        simp only [szTs, Nat.add_zero, Nat.add_mul, Nat.mul_add, Nat.mul_one]
        omega
    · rcases pair_cases hy with h' | h' | h'
      · exact absurd (.inr h') h0
      · rw [pair2 hx ax h, pair1 hy ay h', cdr_list hx ax h, if_neg (by omega), szT_list]
        simp only [szTs, Nat.add_zero, Nat.add_mul, Nat.mul_add, Nat.one_mul]
        omega
      · rw [pair2 hx ax h, pair2 hy ay h', if_pos ⟨h, h'⟩]
        simp only [szTs, Nat.add_zero]
        omega
theorem sub_cost (x y : Ty) (hx : okTy x) (hy : okTy y) (ax : x.all = false) (ay : y.all = false) : 1 + subPairsC mulC x y + subFunsC mulC x y ≤ szT x * szT y := by
  have h1 := subPairsC_le x y hx hy ax ay
  have h2 := subFunsC_le x y hy
  rw [szT_eq x, szT_eq y]
  simp only [Nat.add_mul, Nat.mul_add, Nat.mul_one, Nat.one_mul]
  omega

def SubOK' (n : Nat) : Prop := ∀ (x y : Ty) (vx vy : Value) (w : World) (c k d : Nat), szT x + szT y ≤ n → okTy x → okTy y → k + szT x * szT y ≤ 131072 → d + (szT x + szT y) ≤ 1024 → WalkAt c k w → TyVN (· = c) w vx x → TyVN (· = c) w vy y →
    Calls Try.prog 61 #[.pointer (some ⟨c, 0, none⟩), vx, vy, .int .i64 d] w fun e w' => e = .returned (.bool (subT x y)) ∧ Stay (· = c) w w' ∧ ∃ k', k' ≤ k + szT x * szT y ∧ WalkAt c k' w'

set_option maxRecDepth 100000 in
set_option maxHeartbeats 16000000 in
theorem sub_succ' (n : Nat) (ih : SubOK' n) : SubOK' (n + 1) := by
  intro x y vx vy w c k d hsz okx oky hk hd hw hx hy
  have hmf : ∀ (fn : Fn) (first cap : Array Value) (w : World), (Instr.makeFunc fn first cap).run Try.prog w = .ok (.func fn first cap) w := fun _ _ _ _ => rfl
  have hclt : c < w.heap.size := VarIs.lt hw
  have hpos : 1 ≤ szT x * szT y := Nat.mul_pos (szT_pos x) (szT_pos y)
  have hFn : ∀ (w1 : World) (g1 g2 : Nat), Stay (· = c) w w1 → g1 ≠ c → g2 ≠ c → VarIs w1 g1 88 (.pointer (some ⟨c, 0, none⟩)) → VarIs w1 g2 3 (.int .i64 d) →
      Fn2 (· = c) (WalkAt c) 81 #[.pointer (some ⟨g1, 0, none⟩), .pointer (some ⟨g2, 0, none⟩)] w1 (fun x' y' => okTy x' ∧ okTy y' ∧ szT x' + szT y' < szT x + szT y) subT mulC 131072 := fun w1 g1 g2 h1 n1 n2 hg1 hg2 => by
    refine ⟨fun _ _ _ h hb => h.keep hb, fun _ _ => rfl, ?_⟩
    intro w2 v1 v2 x' y' n' hs hwk hlim hR h1' h2'
    have hp1 := szT_pos x
    have hp2 := szT_pos y
    refine sub_clo x' y' v1 v2 w2 c d g1 g2 (by omega) (hg1.stay hs n1) (hg2.stay hs n2) h1'.v h2'.v fun w3 hb => ?_
    refine (ih x' y' v1 v2 w3 c n' (d + 1) (by omega) hR.1 hR.2.1 hlim (by omega) (hwk.keep hb) (h1'.below hb) (h2'.below hb)).mono ?_
    rintro e w4 ⟨he, hs4, hk4⟩
    exact ⟨he, (Stay.of hb).trans hs4, hk4⟩
  have hcost := sub_cost x y okx oky
  have hP : ∀ (w1 : World) (g1 g2 : Nat), x.all = false → y.all = false → Stay (· = c) w w1 → WalkAt c (k + 1) w1 → g1 ≠ c → g2 ≠ c → VarIs w1 g1 88 (.pointer (some ⟨c, 0, none⟩)) → VarIs w1 g2 3 (.int .i64 d) →
      Calls Try.prog 82 #[vx, vy, .func (.func 81) #[] #[.pointer (some ⟨g1, 0, none⟩), .pointer (some ⟨g2, 0, none⟩)]] w1
      fun e w' => e = .returned (.bool (subPairsP subT x y)) ∧ Stay (· = c) w1 w' ∧ ∃ k', k' ≤ k + 1 + subPairsC mulC x y ∧ WalkAt c k' w' := fun w1 g1 g2 ax ay h1 hc n1 n2 hg1 hg2 => by
    have hcs := hcost ax ay
    refine subPairs_any (hFn w1 g1 g2 h1 n1 n2 hg1 hg2) (fun b hb => by rw [hb]; exact VarIs.lt hc) x y vx vy w1 (k + 1) .refl hc (hx.stay h1) (hy.stay h1) okx oky ?_ ?_ (by omega)
    · intro e1 e2
      have c1 := carS okx ax e1
      have c2 := carS oky ay e2
      exact ⟨c1.2, c2.2, by omega⟩
    · intro e1 e2 e3
      have c1 := cdrS okx ax e1
      have c2 := cdrS oky ay e2
      refine ⟨c1.2.2, c2.2.2, ?_⟩
      rcases pair_cases okx with h | h | h
      · exact absurd h e1
      · have := c1.2.1 h; omega
      · rcases pair_cases oky with h' | h' | h'
        · exact absurd h' e2
        · have := c2.2.1 h'; omega
        · exact absurd ⟨h, h'⟩ e3
  have hF : ∀ (w1 : World) (g1 g2 k1 : Nat), x.all = false → y.all = false → Stay (· = c) w w1 → k1 ≤ k + 1 + subPairsC mulC x y → WalkAt c k1 w1 → g1 ≠ c → g2 ≠ c → VarIs w1 g1 88 (.pointer (some ⟨c, 0, none⟩)) → VarIs w1 g2 3 (.int .i64 d) →
      Calls Try.prog 83 #[vx, vy, .func (.func 81) #[] #[.pointer (some ⟨g1, 0, none⟩), .pointer (some ⟨g2, 0, none⟩)]] w1
      fun e w' => e = .returned (.bool (subFunsP subT x y)) ∧ Stay (· = c) w1 w' ∧ ∃ k', k' ≤ k + szT x * szT y ∧ WalkAt c k' w' := fun w1 g1 g2 k1 ax ay h1 hk1 hc n1 n2 hg1 hg2 => by
    have hcs := hcost ax ay
    refine (subFuns_any (hFn w1 g1 g2 h1 n1 n2 hg1 hg2) (fun b hb => by rw [hb]; exact VarIs.lt hc) x y vx vy w1 k1 .refl hc (hx.stay h1) (hy.stay h1) okx oky ?_ (by omega)).mono ?_
    · intro j h1 h2
      have s1 := szT_fun x j h1
      have s2 := szT_fun y j h2
      have o1 := okx.fun (getT_mem h1)
      have o2 := oky.fun (getT_mem h2)
      exact ⟨⟨o1, o2, by omega⟩, ⟨o2, o1, by omega⟩⟩
    · rintro e w3 ⟨he, hs, k', hk', hw'⟩
      exact ⟨he, hs, k', by omega, hw'⟩
  have hon : ∀ w1, Below w.heap.size w w1 → Calls Try.prog 76 #[.pointer (some ⟨c, 0, none⟩), .int .i64 d] w1 fun e w' => e = .returned (.bool true) ∧ Stay (· = c) w1 w' ∧ WalkAt c (k + 1) w' := fun w1 hb =>
    on_any c k d w1 (hw.keep hb) (by omega) (by omega)
  have hflat : (bits .andNot .i64 x.flat y.flat == 0) = flatSub x.flat y.flat := by
    have a1 := headP okx
    have a2 := headP oky
    exact andNot_sub a1.1 a1.2.1 a2.1 a2.2.1
  have hr1 : y.all = true → subT x y = true := fun h => by rw [subT_eq okx oky, h]; rfl
  have hr2 : x.all = true → y.all = false → subT x y = false := fun h h' => by rw [subT_eq okx oky, h, h']; rfl
  have hr3 : x.all = false → y.all = false → subT x y = (flatSub x.flat y.flat && subPairsP subT x y && subFunsP subT x y) := fun h h' => subP_eq okx oky h h'
  generalize subPairsP subT x y = zp at hP hr3
  generalize subFunsP subT x y = zf at hF hr3
  generalize subPairsC mulC x y = cp at hP hF hcost
  generalize subFunsC mulC x y = cf at hcost
  generalize flatSub x.flat y.flat = zl at hflat hr3
  generalize subT x y = z at hr1 hr2 hr3 ⊢
  generalize szT x * szT y = sxy at hF hk hcost hpos ⊢
  obtain ⟨xpa, xpc, xfa, xfc, rfl, xhp, xhf⟩ := hx.form
  obtain ⟨xnp, xhnp⟩ : ∃ n, n = x.pairs.length := ⟨_, rfl⟩
  obtain ⟨xnf, xhnf⟩ : ∃ n, n = x.funs.length := ⟨_, rfl⟩
  obtain ⟨xa, xha⟩ : ∃ a, a = x.all := ⟨_, rfl⟩
  obtain ⟨xf, xhf'⟩ : ∃ a, a = x.flat := ⟨_, rfl⟩
  obtain ⟨xp, xhp'⟩ : ∃ a, a = x.pair := ⟨_, rfl⟩
  obtain ⟨xn, xhn⟩ : ∃ a, a = x.fn := ⟨_, rfl⟩
  obtain ⟨ypa, ypc, yfa, yfc, rfl, yhp, yhf⟩ := hy.form
  obtain ⟨ynp, yhnp⟩ : ∃ n, n = y.pairs.length := ⟨_, rfl⟩
  obtain ⟨ynf, yhnf⟩ : ∃ n, n = y.funs.length := ⟨_, rfl⟩
  obtain ⟨ya, yha⟩ : ∃ a, a = y.all := ⟨_, rfl⟩
  obtain ⟨yf, yhf'⟩ : ∃ a, a = y.flat := ⟨_, rfl⟩
  obtain ⟨yp, yhp'⟩ : ∃ a, a = y.pair := ⟨_, rfl⟩
  obtain ⟨yn, yhn⟩ : ∃ a, a = y.fn := ⟨_, rfl⟩
  rw [← yha] at hr1
  rw [← xha, ← yha] at hr2 hr3 hcost
  rw [← xhf', ← yhf'] at hflat
  rw [← xhnp, ← xhnf, ← xha, ← xhf', ← xhp', ← xhn, ← yhnp, ← yhnf, ← yha, ← yhf', ← yhp', ← yhn] at hP hF
  rw [← xhnp, ← xhnf, ← xha, ← xhf', ← xhp', ← xhn, ← yhnp, ← yhnf, ← yha, ← yhf', ← yhp', ← yhn]
  obtain ⟨g, hg⟩ : ∃ g, g = w.heap.size := ⟨_, rfl⟩
  obtain ⟨W, hW⟩ : ∃ W, W = (((w.alloc (.cells #[.pointer (some ⟨c, 0, none⟩)] 88)).alloc (.cells #[.bool xa, .int .i64 xf, .int .i64 xp, (.slice xpa xnp xpc), .int .i64 xn, (.slice xfa xnf xfc)] 49)).alloc (.cells #[.bool ya, .int .i64 yf, .int .i64 yp, (.slice ypa ynp ypc), .int .i64 yn, (.slice yfa ynf yfc)] 49)).alloc (.cells #[.int .i64 (d : Int)] 3) := ⟨_, rfl⟩
  have HG := Lib.hid hg
  have HCL := Lib.hid hclt
  have HBW := Lib.hid (show Below w.heap.size w W by rw [hW]; exact ((((Below.refl _ _).alloc (Nat.le_refl _) _).alloc (by simp) _).alloc (by simp; omega) _).alloc (by simp; omega) _)
  have HV1 := Lib.hid (show VarIs W g 88 (.pointer (some ⟨c, 0, none⟩)) by
    rw [hW, hg]; exact (((VarIs.made _ _ _).keep ((Below.refl _ _).alloc (Nat.le_refl _) _)).keep ((Below.refl _ _).alloc (Nat.le_refl _) _)).keep ((Below.refl _ _).alloc (Nat.le_refl _) _))
  have HBX := Lib.hid (show BoxAt W (g + 1) xa xf xp (.slice xpa xnp xpc) xn (.slice xfa xnf xfc) by
    rw [hW, hg]; have := BoxAt.made (w.alloc (.cells #[.pointer (some ⟨c, 0, none⟩)] 88)) xa xf xp (.slice xpa xnp xpc) xn (.slice xfa xnf xfc)
    simp only [alloc_hs] at this
    exact (this.keep ((Below.refl _ _).alloc (Nat.le_refl _) _)).keep ((Below.refl _ _).alloc (Nat.le_refl _) _))
  have HBY := Lib.hid (show BoxAt W (g + 2) ya yf yp (.slice ypa ynp ypc) yn (.slice yfa ynf yfc) by
    rw [hW, hg]; have := BoxAt.made ((w.alloc (.cells #[.pointer (some ⟨c, 0, none⟩)] 88)).alloc (.cells #[.bool xa, .int .i64 xf, .int .i64 xp, (.slice xpa xnp xpc), .int .i64 xn, (.slice xfa xnf xfc)] 49)) ya yf yp (.slice ypa ynp ypc) yn (.slice yfa ynf yfc)
    simp only [alloc_hs] at this
    exact this.keep ((Below.refl _ _).alloc (Nat.le_refl _) _))
  have HV2 := Lib.hid (show VarIs W (g + 3) 3 (.int .i64 d) by
    rw [hW, hg]; have := VarIs.made (((w.alloc (.cells #[.pointer (some ⟨c, 0, none⟩)] 88)).alloc (.cells #[.bool xa, .int .i64 xf, .int .i64 xp, (.slice xpa xnp xpc), .int .i64 xn, (.slice xfa xnf xfc)] 49)).alloc (.cells #[.bool ya, .int .i64 yf, .int .i64 yp, (.slice ypa ynp ypc), .int .i64 yn, (.slice yfa ynf yfc)] 49)) 3 (.int .i64 (d : Int))
    simp only [alloc_hs] at this
    exact this)
  have HW := Lib.hid hW
  have HON := Lib.hid (hon W HBW.out)
  have HNE := Lib.hid (show g ≠ c ∧ g + 3 ≠ c by omega)
  have HP := Lib.hid hP
  have HF := Lib.hid hF
  have HCO := Lib.hid hcost
  have HPO := Lib.hid hpos
  have HR1 := Lib.hid hr1
  have HR2 := Lib.hid hr2
  have HR3 := Lib.hid hr3
  clear hP hF hon hW hg hsz hk hd ih hx hy hclt hw hcost hpos okx oky hFn hr1 hr2 hr3 xhp xhf xhnp xhnf xha xhf' xhp' xhn yhp yhf yhnp yhnf yha yhf' yhp' yhn
  cases ya with
  | true =>
    have HZ := Lib.hid (HR1.out rfl)
    cases xa
    all_goals
      go_enter Try.func61, Try.ntmps61
      go_wp2_with fail
      rw [← HG.out, ← HW.out]
      refine HON.out.mono ?_
      rintro e w2 ⟨rfl, hs2, hc2⟩
      have HX2 := Lib.hid (HBX.out.stay hs2 (by have := HG.out; have := HCL.out; omega))
      have HY2 := Lib.hid (HBY.out.stay hs2 (by have := HG.out; have := HCL.out; omega))
      have HS2 := Lib.hid ((Stay.of (N := (· = c)) HBW.out).trans hs2)
      have HK2 := Lib.hid hc2
      have HV12 := Lib.hid (HV1.out.stay hs2 HNE.out.1)
      have HV22 := Lib.hid (HV2.out.stay hs2 HNE.out.2)
      clear hs2 hc2
      have x0 := HX2.out.c0
      have x1 := HX2.out.c1
      have x2 := HX2.out.c2
      have x3 := HX2.out.c3
      have x4 := HX2.out.c4
      have x5 := HX2.out.c5
      have y0 := HY2.out.c0
      have y1 := HY2.out.c1
      have y2 := HY2.out.c2
      have y3 := HY2.out.c3
      have y4 := HY2.out.c4
      have y5 := HY2.out.c5
      go_wp2
      go_ret
      exact ⟨ret_bool (by rw [HZ.out]), HS2.out, k + 1, by have := HPO.out; omega, HK2.out⟩
  | false =>
    cases xa with
    | true =>
      have HZ := Lib.hid (HR2.out rfl rfl)
      go_enter Try.func61, Try.ntmps61
      go_wp2_with fail
      rw [← HG.out, ← HW.out]
      refine HON.out.mono ?_
      rintro e w2 ⟨rfl, hs2, hc2⟩
      have HX2 := Lib.hid (HBX.out.stay hs2 (by have := HG.out; have := HCL.out; omega))
      have HY2 := Lib.hid (HBY.out.stay hs2 (by have := HG.out; have := HCL.out; omega))
      have HS2 := Lib.hid ((Stay.of (N := (· = c)) HBW.out).trans hs2)
      have HK2 := Lib.hid hc2
      have HV12 := Lib.hid (HV1.out.stay hs2 HNE.out.1)
      have HV22 := Lib.hid (HV2.out.stay hs2 HNE.out.2)
      clear hs2 hc2
      have x0 := HX2.out.c0
      have x1 := HX2.out.c1
      have x2 := HX2.out.c2
      have x3 := HX2.out.c3
      have x4 := HX2.out.c4
      have x5 := HX2.out.c5
      have y0 := HY2.out.c0
      have y1 := HY2.out.c1
      have y2 := HY2.out.c2
      have y3 := HY2.out.c3
      have y4 := HY2.out.c4
      have y5 := HY2.out.c5
      go_wp2
      go_ret
      exact ⟨ret_bool (by rw [HZ.out]), HS2.out, k + 1, by have := HPO.out; omega, HK2.out⟩
    | false =>
      have HZ := Lib.hid (HR3.out rfl rfl)
      have HP2 := Lib.hid (fun w1 g1 g2 => HP.out w1 g1 g2 rfl rfl)
      have HF2 := Lib.hid (fun w1 g1 g2 k1 => HF.out w1 g1 g2 k1 rfl rfl)
      have HCO2 := Lib.hid (HCO.out rfl rfl)
      clear HR1 HR2 HR3 HP HF HCO
      cases zl with
      | false =>
        have HZ2 := Lib.hid (show z = false by rw [HZ.out]; rfl)
        go_enter Try.func61, Try.ntmps61
        go_wp2_with fail
        rw [← HG.out, ← HW.out]
        refine HON.out.mono ?_
        rintro e w2 ⟨rfl, hs2, hc2⟩
        have HX2 := Lib.hid (HBX.out.stay hs2 (by have := HG.out; have := HCL.out; omega))
        have HY2 := Lib.hid (HBY.out.stay hs2 (by have := HG.out; have := HCL.out; omega))
        have HS2 := Lib.hid ((Stay.of (N := (· = c)) HBW.out).trans hs2)
        have HK2 := Lib.hid hc2
        have HV12 := Lib.hid (HV1.out.stay hs2 HNE.out.1)
        have HV22 := Lib.hid (HV2.out.stay hs2 HNE.out.2)
        clear hs2 hc2
        have x0 := HX2.out.c0
        have x1 := HX2.out.c1
        have x2 := HX2.out.c2
        have x3 := HX2.out.c3
        have x4 := HX2.out.c4
        have x5 := HX2.out.c5
        have y0 := HY2.out.c0
        have y1 := HY2.out.c1
        have y2 := HY2.out.c2
        have y3 := HY2.out.c3
        have y4 := HY2.out.c4
        have y5 := HY2.out.c5
        go_wp2
        go_ret
        exact ⟨ret_bool (by rw [HZ2.out]), HS2.out, k + 1, by have := HPO.out; omega, HK2.out⟩
      | true =>
        go_enter Try.func61, Try.ntmps61
        go_wp2_with fail
        rw [← HG.out, ← HW.out]
        refine HON.out.mono ?_
        rintro e w2 ⟨rfl, hs2, hc2⟩
        have HX2 := Lib.hid (HBX.out.stay hs2 (by have := HG.out; have := HCL.out; omega))
        have HY2 := Lib.hid (HBY.out.stay hs2 (by have := HG.out; have := HCL.out; omega))
        have HS2 := Lib.hid ((Stay.of (N := (· = c)) HBW.out).trans hs2)
        have HK2 := Lib.hid hc2
        have HV12 := Lib.hid (HV1.out.stay hs2 HNE.out.1)
        have HV22 := Lib.hid (HV2.out.stay hs2 HNE.out.2)
        clear hs2 hc2
        have x0 := HX2.out.c0
        have x1 := HX2.out.c1
        have x2 := HX2.out.c2
        have x3 := HX2.out.c3
        have x4 := HX2.out.c4
        have x5 := HX2.out.c5
        have y0 := HY2.out.c0
        have y1 := HY2.out.c1
        have y2 := HY2.out.c2
        have y3 := HY2.out.c3
        have y4 := HY2.out.c4
        have y5 := HY2.out.c5
        have HCP := Lib.hid (HP2.out w2 g (g + 3) HS2.out HK2.out HNE.out.1 HNE.out.2 HV12.out HV22.out)
        go_wp2_with fail
        refine HCP.out.mono ?_
        rintro e w3 ⟨rfl, hs3, k3, hk3, hw3⟩
        have HX3 := Lib.hid (HX2.out.stay hs3 (by have := HG.out; have := HCL.out; omega))
        have HY3 := Lib.hid (HY2.out.stay hs3 (by have := HG.out; have := HCL.out; omega))
        have HS3 := Lib.hid (HS2.out.trans hs3)
        have HK3 := Lib.hid hw3
        have HN3 := Lib.hid hk3
        have HV13 := Lib.hid (HV12.out.stay hs3 HNE.out.1)
        have HV23 := Lib.hid (HV22.out.stay hs3 HNE.out.2)
        clear hs3 hk3 hw3
        clear x0 x1 x2 x3 x4 x5 y0 y1 y2 y3 y4 y5
        cases zp with
        | false =>
          have HZ2 := Lib.hid (show z = false by rw [HZ.out]; rfl)
          go_wp2
          go_ret
          exact ⟨ret_bool (by rw [HZ2.out]), HS3.out, k3, by have := HN3.out; have := HCO2.out; omega, HK3.out⟩
        | true =>
          have HCF := Lib.hid (HF2.out w3 g (g + 3) k3 HS3.out HN3.out HK3.out HNE.out.1 HNE.out.2 HV13.out HV23.out)
          have x0 := HX3.out.c0
          have x1 := HX3.out.c1
          have x2 := HX3.out.c2
          have x3 := HX3.out.c3
          have x4 := HX3.out.c4
          have x5 := HX3.out.c5
          have y0 := HY3.out.c0
          have y1 := HY3.out.c1
          have y2 := HY3.out.c2
          have y3 := HY3.out.c3
          have y4 := HY3.out.c4
          have y5 := HY3.out.c5
          go_wp2_with fail
          refine HCF.out.mono ?_
          rintro e w4 ⟨rfl, hs4, hk4⟩
          go_wp2
          go_ret
          exact ⟨ret_bool (by rw [HZ.out]; rfl), HS3.out.trans hs4, hk4⟩

theorem sub_any' (x y : Ty) (vx vy : Value) (w : World) (c k d : Nat) (okx : okTy x) (oky : okTy y) (hk : k + szT x * szT y ≤ 131072) (hd : d + (szT x + szT y) ≤ 1024) (hw : WalkAt c k w) (hx : TyVN (· = c) w vx x) (hy : TyVN (· = c) w vy y) :
    Calls Try.prog 61 #[.pointer (some ⟨c, 0, none⟩), vx, vy, .int .i64 d] w fun e w' => e = .returned (.bool (subT x y)) ∧ Stay (· = c) w w' ∧ ∃ k', k' ≤ k + szT x * szT y ∧ WalkAt c k' w' := by
  have key : ∀ n, SubOK' n := by
    intro n
    induction n with
    | zero => intro x y vx vy w c k d h; have := szT_pos x; omega
    | succ n ih => exact sub_succ' n ih
  exact key _ x y vx vy w c k d (Nat.le_refl _) okx oky hk hd hw hx hy
end Go.Proofs.Ytgjkobkcmgliaaa
