import Derived.Test.YtgjkobkcmgliaaaTyJb
import Derived.Test.YtgjkobkcmgliaaaTySu
namespace Go.Proofs.Ytgjkobkcmgliaaa
open Go.RowKit

abbrev fstC : Ty → Ty → Nat := fun x _ => szT x
theorem all_no_pair {x : Ty} (h : okTy x) (hp : x.pair ≠ 0) : x.all = false := by
  cases ha : x.all with
  | false => rfl
  | true => exact absurd ((headP h).2.2.2.2.2.2.1 ha).2.1 hp
theorem all_no_fn {x : Ty} (h : okTy x) (hp : x.fn ≠ 0) : x.all = false := by
  cases ha : x.all with
  | false => rfl
  | true => exact absurd ((headP h).2.2.2.2.2.2.1 ha).2.2 hp
theorem joinFunsC_le (x y : Ty) : joinFunsC fstC x y ≤ szTs x.funs := by
  unfold joinFunsC
  have := preC_le x.funs y.funs _ (Nat.le_refl _)
  split
  · omega
  · split
    · exact this
    · omega
theorem join_cost (x y : Ty) (hx : okTy x) (hy : okTy y) : 1 + joinPairsC mulC x y + joinFunsC fstC x y ≤ szT x * szT y := by
  have h2 := joinFunsC_le x y
  have h1 : joinPairsC mulC x y ≤ szTs x.pairs * szTs y.pairs + szTs x.pairs + szTs y.pairs := by
    by_cases h : x.pair = 0 ∨ y.pair = 0
    · unfold joinPairsC; rw [if_pos h]; omega
    · exact subPairsC_le x y hx hy (all_no_pair hx fun e => h (.inl e)) (all_no_pair hy fun e => h (.inr e))
  rw [szT_eq x, szT_eq y]
  simp only [Nat.add_mul, Nat.mul_add, Nat.mul_one, Nat.one_mul]
  omega
theorem joinByT_join (x y : Ty) (hx : okTy x) (hy : okTy y) : joinByT joinT sameT x y = joinT x y := by
  rw [joinT_eq hx hy]
  unfold joinByT joinStep
  cases h : x.all || y.all with
  | true => simp
  | false =>
    have px := ok_funs hx.hd
    have py := ok_funs hy.hd
    have e : funsEq sameT x y = decide (x.fn = y.fn ∧ samesT x.funs y.funs = true) := by
      rw [Bool.eq_iff_iff]
      unfold funsEq
      rw [Bool.and_eq_true, Bool.and_eq_true, beq_iff_eq, decide_eq_true_iff, decide_eq_true_iff, samesT_iff, allZ_iff]
    simp only [Bool.false_eq_true, if_false]
    congr 1
    · unfold joinPairsP
      rcases pair_cases hx with h | h | h <;> rcases pair_cases hy with h' | h' | h' <;> simp [h, h']
    · unfold joinPairsL
      rcases pair_cases hx with h | h | h <;> rcases pair_cases hy with h' | h' | h' <;> simp [h, h', pair0 hx, pair0 hy]
    · unfold joinFunsP
      rw [e]
      by_cases h0 : x.fn = 0
      · by_cases h1 : y.fn = 0
        · simp [h0, h1]
        · simp [h0, h1]
      · by_cases h1 : y.fn = 0
        · simp [h0, h1]
        · by_cases hh : x.fn = y.fn ∧ samesT x.funs y.funs = true
          · rw [decide_eq_true hh, if_neg h1, if_neg h0, if_pos rfl, if_neg h0, if_neg h1, if_pos hh]
          · rw [decide_eq_false hh, if_neg h1, if_neg h0, if_neg (by simp), if_neg h0, if_neg h1, if_neg hh]
    · unfold joinFunsL
      rw [e]
      by_cases h0 : x.fn = 0
      · by_cases h1 : y.fn = 0
        · rw [if_pos h1, if_pos h0, fn_none hx (by omega), fn_none hy (by omega)]
        · simp [h0, h1]
      · by_cases h1 : y.fn = 0
        · simp [h0, h1]
        · by_cases hh : x.fn = y.fn ∧ samesT x.funs y.funs = true
          · rw [decide_eq_true hh, if_neg h1, if_neg h0, if_pos rfl, if_neg h0, if_neg h1, if_pos hh]
          · rw [decide_eq_false hh, if_neg h1, if_neg h0, if_neg (by simp), if_neg h0, if_neg h1, if_neg hh]

set_option maxRecDepth 100000 in
set_option maxHeartbeats 8000000 in
theorem join1_clo {S : World → World → Prop} (M : Nat → Prop) (t : Ty) (x y : Ty) (vx vy : Value) (w : World) (c d g1 g2 : Nat) (hM : ∀ b, M b → b < w.heap.size) (hcM : M c) (hd : d ≤ 1024) (h1 : VarIs w g1 88 (.pointer (some ⟨c, 0, none⟩))) (h2 : VarIs w g2 3 (.int .i64 d)) (hx : TyVN M w vx x) (hy : TyVN M w vy y)
    (hS : ∀ (w1 w2 : World) (p : Addr) (v : Value), Below w.heap.size w w1 → w.heap.size ≤ p.block → S w1 w2 → S w (w2.setCell p v)) (hS' : ∀ (w2 : World) (p : Addr) (v : Value), w.heap.size ≤ p.block → S w w2 → S w (w2.setCell p v))
    (hsz : ∀ (w1 w2 : World), S w1 w2 → Stay (· = c) w1 w2)
    (hcall : ∀ (w1 : World) (M' : Nat → Prop), Below w.heap.size w w1 → (∀ b, M b → M' b) → (∀ b, M' b → b < w1.heap.size) → TyVN M' w1 vx x → TyVN M' w1 vy y → Calls Try.prog 60 #[.pointer (some ⟨c, 0, none⟩), vx, vy, .int .i64 ((d : Int) + 1)] w1 fun e w' => (∃ v, e = .returned v ∧ TyVN M' w' v t) ∧ S w1 w') :
    Calls Try.prog 77 #[vx, vy, .pointer (some ⟨g1, 0, none⟩), .pointer (some ⟨g2, 0, none⟩)] w fun e w' => (∃ v, e = .returned v ∧ TyVN M w' v t) ∧ S w w' := by
  obtain ⟨g, hg⟩ : ∃ g, g = w.heap.size := ⟨_, rfl⟩
  have hcl : c < w.heap.size := hM c hcM
  have hcc : ∀ w1, Below w.heap.size w w1 → g + 2 < w1.heap.size → Calls Try.prog 60 #[.pointer (some ⟨c, 0, none⟩), vx, vy, .int .i64 ((d : Int) + 1)] w1 fun e w' => (∃ v, e = .returned v ∧ TyVN (fun b => M b ∨ b = g + 2) w' v t) ∧ S w1 w' := fun w1 hb h3 =>
    hcall w1 _ hb (fun _ h => .inl h) (fun b h => h.elim (fun h => Nat.lt_of_lt_of_le (hM b h) hb.size) (fun h => by omega)) (hx.later hb fun b h => h.imp id fun h => by omega) (hy.later hb fun b h => h.imp id fun h => by omega)
  obtain ⟨xpa, xpc, xfa, xfc, rfl, xhp, xhf⟩ := hx.form
  obtain ⟨xnp, xhnp⟩ : ∃ n, n = x.pairs.length := ⟨_, rfl⟩
  obtain ⟨xnf, xhnf⟩ : ∃ n, n = x.funs.length := ⟨_, rfl⟩
  obtain ⟨xa, xha⟩ : ∃ a, a = x.all := ⟨_, rfl⟩
  obtain ⟨xf, xhf'⟩ : ∃ a, a = x.flat := ⟨_, rfl⟩
  obtain ⟨xp, xhp'⟩ : ∃ a, a = x.pair := ⟨_, rfl⟩
  obtain ⟨xn, xhn⟩ : ∃ a, a = x.fn := ⟨_, rfl⟩
  obtain ⟨ypa, ypc, yfa, yfc, rfl, yhp, yhf⟩ := hy.form
  obtain ⟨ynp, yhnp⟩ : ∃ n, n = y.pairs.length := ⟨_, rfl⟩
  obtain ⟨ynf, yhnf⟩ : ∃ n, n = y.funs.length := ⟨_, rfl⟩
  obtain ⟨ya, yha⟩ : ∃ a, a = y.all := ⟨_, rfl⟩
  obtain ⟨yf, yhf'⟩ : ∃ a, a = y.flat := ⟨_, rfl⟩
  obtain ⟨yp, yhp'⟩ : ∃ a, a = y.pair := ⟨_, rfl⟩
  obtain ⟨yn, yhn⟩ : ∃ a, a = y.fn := ⟨_, rfl⟩
  rw [← xhnp, ← xhnf, ← xha, ← xhf', ← xhp', ← xhn, ← yhnp, ← yhnf, ← yha, ← yhf', ← yhp', ← yhn] at hcc
  rw [← xhnp, ← xhnf, ← xha, ← xhf', ← xhp', ← xhn, ← yhnp, ← yhnf, ← yha, ← yhf', ← yhp', ← yhn]
  obtain ⟨W, hW⟩ : ∃ W, W = ((w.alloc (.cells #[.bool xa, .int .i64 xf, .int .i64 xp, (.slice xpa xnp xpc), .int .i64 xn, (.slice xfa xnf xfc)] 49)).alloc (.cells #[.bool ya, .int .i64 yf, .int .i64 yp, (.slice ypa ynp ypc), .int .i64 yn, (.slice yfa ynf yfc)] 49)).alloc (.cells #[.bool false, .int .i64 0, .int .i64 0, (.slice none 0 0), .int .i64 0, (.slice none 0 0)] 49) := ⟨_, rfl⟩
  have HBW := Lib.hid (show Below w.heap.size w W by rw [hW]; exact (((Below.refl _ _).alloc (Nat.le_refl _) _).alloc (by simp) _).alloc (by simp; omega) _)
  have HR := Lib.hid (show BoxAt W (g + 2) false 0 0 (.slice none 0 0) 0 (.slice none 0 0) by
    rw [hW, hg]; have := BoxAt.made ((w.alloc (.cells #[.bool xa, .int .i64 xf, .int .i64 xp, (.slice xpa xnp xpc), .int .i64 xn, (.slice xfa xnf xfc)] 49)).alloc (.cells #[.bool ya, .int .i64 yf, .int .i64 yp, (.slice ypa ynp ypc), .int .i64 yn, (.slice yfa ynf yfc)] 49)) false 0 0 (.slice none 0 0) 0 (.slice none 0 0)
    simp only [alloc_hs] at this
    exact this)
  have k1 := (h1.keep HBW.out).c
  have k2 := (h2.keep HBW.out).c
  rw [hW] at k1 k2
  have hsz2 : g + 2 < W.heap.size := HR.out.lt
  have HC := Lib.hid (hcc W HBW.out hsz2)
  have HW := Lib.hid hW
  have HG := Lib.hid hg
  have HS := Lib.hid hS
  have HS' := Lib.hid hS'
  have HSZ := Lib.hid hsz
  have HCL := Lib.hid hcl
  have hd2 : (d : Int) ≤ 1024 := by omega
  clear hcall hcc hW hg hd h1 h2 hx hy hM hcM hS hS' hsz hsz2 hcl xhp xhf xhnp xhnf xha xhf' xhp' xhn yhp yhf yhnp yhnf yha yhf' yhp' yhn
  go_enter Try.func77, Try.ntmps77
  go_wp2_with fail
  rw [← HG.out, ← HW.out]
  refine HC.out.mono ?_
  rintro e w2 ⟨⟨v, rfl, hv⟩, hs2⟩
  obtain ⟨va, vf, vp, vpa, vnp, vpc, vk, vfa, vnf, vfc, rfl⟩ := hv.shape
  have hr := HR.out.stay (HSZ.out _ _ hs2) (by have := HCL.out; rw [HG.out]; omega)
  have r0 := hr.c0
  have r1 := hr.c1
  have r2 := hr.c2
  have r3 := hr.c3
  have r4 := hr.c4
  have r5 := hr.c5
  have rf := hr.fr
  have HV := Lib.hid hv
  have HS2 := Lib.hid hs2
  clear hv hs2 hr
  go_wp2
  refine bodyPost_ret (v := .agg #[.bool va, .int .i64 vf, .int .i64 vp, .slice vpa vnp vpc, .int .i64 vk, .slice vfa vnf vfc]) ?_ ?_ ?_
  · simp [results, Try.results77, go_sem, r0, r1, r2, r3, r4, r5]
  · rfl
  · have hle : ∀ i, w.heap.size ≤ (⟨g + 2, i, none⟩ : Addr).block := fun i => by show w.heap.size ≤ g + 2; rw [HG.out]; omega
    exact ⟨⟨_, rfl, (TyVN.set6 (g := g + 2) HV.out (.inr rfl)).mono fun _ _ h => .inl h⟩, HS'.out _ _ _ (hle 5) (HS'.out _ _ _ (hle 4) (HS'.out _ _ _ (hle 3) (HS'.out _ _ _ (hle 2) (HS'.out _ _ _ (hle 1) (HS.out _ _ _ _ HBW.out (hle 0) HS2.out)))))⟩

theorem walk_set {c k : Nat} {w : World} (h : WalkAt c k w) {p : Addr} (hp : c ≠ p.block) (x : Value) : WalkAt c k (w.setCell p x) := (Below.heap_setCell _ _ _ _ hp).trans h
def JoinOK' (n : Nat) : Prop := ∀ (M : Nat → Prop) (x y : Ty) (vx vy : Value) (w : World) (c k d : Nat), M c → (∀ b, M b → b < w.heap.size) → szT x + szT y ≤ n → okTy x → okTy y → k + szT x * szT y ≤ 131072 → d + (szT x + szT y) ≤ 1024 → WalkAt c k w → TyVN M w vx x → TyVN M w vy y →
    Calls Try.prog 60 #[.pointer (some ⟨c, 0, none⟩), vx, vy, .int .i64 d] w fun e w' => (∃ v, e = .returned v ∧ TyVN M w' v (joinT x y)) ∧ Stay (· = c) w w' ∧ ∃ k', k' ≤ k + szT x * szT y ∧ WalkAt c k' w'

set_option maxRecDepth 100000 in
set_option maxHeartbeats 16000000 in
theorem join_succ' (n : Nat) (ih : JoinOK' n) : JoinOK' (n + 1) := by
  intro M x y vx vy w c k d hMc hM hsz okx oky hk hd hw hx hy
  have hmf : ∀ (fn : Fn) (first cap : Array Value) (w : World), (Instr.makeFunc fn first cap).run Try.prog w = .ok (.func fn first cap) w := fun _ _ _ _ => rfl
  have hclt : c < w.heap.size := VarIs.lt hw
  have hpos : 1 ≤ szT x * szT y := Nat.mul_pos (szT_pos x) (szT_pos y)
  have hp1 := szT_pos x
  have hp2 := szT_pos y
  have hcost := join_cost x y okx oky
  obtain ⟨g, hg⟩ : ∃ g, g = w.heap.size := ⟨_, rfl⟩
  have hJ : ∀ (w1 : World), Stay (· = c) w w1 → g + 4 < w1.heap.size → WalkAt c (k + 1) w1 → VarIs w1 g 88 (.pointer (some ⟨c, 0, none⟩)) → VarIs w1 (g + 3) 3 (.int .i64 d) →
      Calls Try.prog 78 #[vx, vy, .func (.func 77) #[] #[.pointer (some ⟨g, 0, none⟩), .pointer (some ⟨g + 3, 0, none⟩)], .func (.func 79) #[] #[.pointer (some ⟨g, 0, none⟩), .pointer (some ⟨g + 3, 0, none⟩)]] w1
      fun e w' => (∃ v, e = .returned v ∧ TyVN (fun b => M b ∨ b = g + 4) w' v (joinT x y)) ∧ Stay (· = c) w1 w' ∧ ∃ k', k' ≤ k + szT x * szT y ∧ WalkAt c k' w' := fun w1 h1 hlt hc hg1 hg2 => by
    have n1 : g ≠ c := by omega
    have n2 : g + 3 ≠ c := by omega
    have FT : FnT (· = c) (WalkAt c) 77 #[.pointer (some ⟨g, 0, none⟩), .pointer (some ⟨g + 3, 0, none⟩)] w1 (fun x' y' => okTy x' ∧ okTy y' ∧ szT x' + szT y' < szT x + szT y) joinT mulC 131072 := by
      refine ⟨fun _ _ _ h hb => h.keep hb, fun _ _ => rfl, ?_⟩
      intro M' w2 v1 v2 x' y' n' hNM' hM' hs hwk hlim hR h1' h2'
      have hc2 : c < w2.heap.size := VarIs.lt hwk
      refine join1_clo (S := fun a b => Stay (· = c) a b ∧ ∃ k', k' ≤ n' + mulC x' y' ∧ WalkAt c k' b) M' _ x' y' v1 v2 w2 c d g (g + 3) hM' (hNM' c rfl) (by omega) (hg1.stay hs n1) (hg2.stay hs n2) h1' h2' ?_ ?_ (fun _ _ h => h.1) ?_
      · rintro w3 w4 p v hb hp ⟨h3, k', h4, h5⟩
        exact ⟨((Stay.of hb).trans h3).new hp v, k', h4, walk_set h5 (by omega) v⟩
      · rintro w4 p v hp ⟨h3, k', h4, h5⟩
        exact ⟨h3.new hp v, k', h4, walk_set h5 (by omega) v⟩
      · intro w3 M'' hb hMM hM'' h3 h4
        exact ih M'' x' y' v1 v2 w3 c n' (d + 1) (hMM c (hNM' c rfl)) hM'' (by omega) hR.1 hR.2.1 hlim (by omega) (hwk.keep hb) h3 h4
    have F2 : Fn2 (· = c) (WalkAt c) 79 #[.pointer (some ⟨g, 0, none⟩), .pointer (some ⟨g + 3, 0, none⟩)] w1 (fun x' _ => szT x' < szT x) sameT fstC 131072 := by
      refine ⟨fun _ _ _ h hb => h.keep hb, fun _ _ => rfl, ?_⟩
      intro w2 v1 v2 x' y' n' hs hwk hlim hR h1' h2'
      refine join2_clo x' y' v1 v2 w2 c d g (g + 3) (by omega) (hg1.stay hs n1) (hg2.stay hs n2) h1'.v h2'.v fun w3 hb => ?_
      refine (ws_any x' y' v1 v2 w3 c n' (d + 1) hlim (by omega) (hwk.keep hb) (h1'.below hb) (h2'.below hb)).mono ?_
      rintro e w4 ⟨he, hs4, hk4⟩
      exact ⟨he, (Stay.of hb).trans hs4, hk4⟩
    have hl : ∀ {v : Value} {t : Ty}, TyVN M w v t → TyVN (fun b => M b ∨ b = g + 4) w1 v t := fun hv => (hv.mono fun b hb h => h.elim id (fun h => by omega)).stay (h1.mono fun b hb => .inl (by rw [hb]; exact hMc))
    refine (joinBy_any FT F2 (fun n w w' h hh => (hh c rfl).trans h) (fun b => M b ∨ b = g + 4) (fun b hb => .inl (by rw [hb]; exact hMc)) (fun b hb => by rw [hb]; exact VarIs.lt hc) x y vx vy w1 (k + 1) (fun b h => h.elim (fun h => Nat.lt_of_lt_of_le (hM b h) h1.size) (fun h => by omega)) .refl hc (hl hx) (hl hy) okx.hd oky.hd ?_ ?_ ?_ (by omega)).mono ?_
    · intro e1 e2
      have c1 := carS okx (all_no_pair okx e1) e1
      have c2 := carS oky (all_no_pair oky e2) e2
      exact ⟨c1.2, c2.2, by omega⟩
    · intro e1 e2 e3
      have c1 := cdrS okx (all_no_pair okx e1) e1
      have c2 := cdrS oky (all_no_pair oky e2) e2
      refine ⟨c1.2.2, c2.2.2, ?_⟩
      rcases pair_cases okx with h | h | h
      · exact absurd h e1
      · have := c1.2.1 h; omega
      · rcases pair_cases oky with h' | h' | h'
        · exact absurd h' e2
        · have := c2.2.1 h'; omega
        · exact absurd ⟨h, h'⟩ e3
    · intro _ _ j hj _
      exact szT_fun x j hj
    · rintro e w3 ⟨⟨v, he, hv⟩, hs, k', hk', hw'⟩
      rw [joinByT_join x y okx oky] at hv
      exact ⟨⟨v, he, hv⟩, hs, k', by omega, hw'⟩
  have hon : ∀ w1, Below w.heap.size w w1 → Calls Try.prog 76 #[.pointer (some ⟨c, 0, none⟩), .int .i64 d] w1 fun e w' => e = .returned (.bool true) ∧ Stay (· = c) w1 w' ∧ WalkAt c (k + 1) w' := fun w1 hb =>
    on_any c k d w1 (hw.keep hb) (by omega) (by omega)
  generalize joinT x y = z at hJ ⊢
  generalize szT x * szT y = sxy at hJ hk hcost hpos ⊢
  obtain ⟨xpa, xpc, xfa, xfc, rfl, xhp, xhf⟩ := hx.form
  obtain ⟨xnp, xhnp⟩ : ∃ n, n = x.pairs.length := ⟨_, rfl⟩
  obtain ⟨xnf, xhnf⟩ : ∃ n, n = x.funs.length := ⟨_, rfl⟩
  obtain ⟨xa, xha⟩ : ∃ a, a = x.all := ⟨_, rfl⟩
  obtain ⟨xf, xhf'⟩ : ∃ a, a = x.flat := ⟨_, rfl⟩
  obtain ⟨xp, xhp'⟩ : ∃ a, a = x.pair := ⟨_, rfl⟩
  obtain ⟨xn, xhn⟩ : ∃ a, a = x.fn := ⟨_, rfl⟩
  obtain ⟨ypa, ypc, yfa, yfc, rfl, yhp, yhf⟩ := hy.form
  obtain ⟨ynp, yhnp⟩ : ∃ n, n = y.pairs.length := ⟨_, rfl⟩
  obtain ⟨ynf, yhnf⟩ : ∃ n, n = y.funs.length := ⟨_, rfl⟩
  obtain ⟨ya, yha⟩ : ∃ a, a = y.all := ⟨_, rfl⟩
  obtain ⟨yf, yhf'⟩ : ∃ a, a = y.flat := ⟨_, rfl⟩
  obtain ⟨yp, yhp'⟩ : ∃ a, a = y.pair := ⟨_, rfl⟩
  obtain ⟨yn, yhn⟩ : ∃ a, a = y.fn := ⟨_, rfl⟩
  rw [← xhnp, ← xhnf, ← xha, ← xhf', ← xhp', ← xhn, ← yhnp, ← yhnf, ← yha, ← yhf', ← yhp', ← yhn] at hJ
  rw [← xhnp, ← xhnf, ← xha, ← xhf', ← xhp', ← xhn, ← yhnp, ← yhnf, ← yha, ← yhf', ← yhp', ← yhn]
  obtain ⟨W0, hW0⟩ : ∃ W0, W0 = (((w.alloc (.cells #[.pointer (some ⟨c, 0, none⟩)] 88)).alloc (.cells #[.bool xa, .int .i64 xf, .int .i64 xp, (.slice xpa xnp xpc), .int .i64 xn, (.slice xfa xnf xfc)] 49)).alloc (.cells #[.bool ya, .int .i64 yf, .int .i64 yp, (.slice ypa ynp ypc), .int .i64 yn, (.slice yfa ynf yfc)] 49)).alloc (.cells #[.int .i64 (d : Int)] 3) := ⟨_, rfl⟩
  obtain ⟨W, hW⟩ : ∃ W, W = W0.alloc (.cells #[.bool false, .int .i64 0, .int .i64 0, (.slice none 0 0), .int .i64 0, (.slice none 0 0)] 49) := ⟨_, rfl⟩
  have HG := Lib.hid hg
  have HCL := Lib.hid hclt
  have HBW0 := Lib.hid (show Below w.heap.size w W0 by rw [hW0]; exact ((((Below.refl _ _).alloc (Nat.le_refl _) _).alloc (by simp) _).alloc (by simp; omega) _).alloc (by simp; omega) _)
  have HV1 := Lib.hid (show VarIs W0 g 88 (.pointer (some ⟨c, 0, none⟩)) by
    rw [hW0, hg]; exact (((VarIs.made _ _ _).keep ((Below.refl _ _).alloc (Nat.le_refl _) _)).keep ((Below.refl _ _).alloc (Nat.le_refl _) _)).keep ((Below.refl _ _).alloc (Nat.le_refl _) _))
  have HBX := Lib.hid (show BoxAt W0 (g + 1) xa xf xp (.slice xpa xnp xpc) xn (.slice xfa xnf xfc) by
    rw [hW0, hg]; have := BoxAt.made (w.alloc (.cells #[.pointer (some ⟨c, 0, none⟩)] 88)) xa xf xp (.slice xpa xnp xpc) xn (.slice xfa xnf xfc)
    simp only [alloc_hs] at this
    exact (this.keep ((Below.refl _ _).alloc (Nat.le_refl _) _)).keep ((Below.refl _ _).alloc (Nat.le_refl _) _))
  have HBY := Lib.hid (show BoxAt W0 (g + 2) ya yf yp (.slice ypa ynp ypc) yn (.slice yfa ynf yfc) by
    rw [hW0, hg]; have := BoxAt.made ((w.alloc (.cells #[.pointer (some ⟨c, 0, none⟩)] 88)).alloc (.cells #[.bool xa, .int .i64 xf, .int .i64 xp, (.slice xpa xnp xpc), .int .i64 xn, (.slice xfa xnf xfc)] 49)) ya yf yp (.slice ypa ynp ypc) yn (.slice yfa ynf yfc)
    simp only [alloc_hs] at this
    exact this.keep ((Below.refl _ _).alloc (Nat.le_refl _) _))
  have HV2 := Lib.hid (show VarIs W0 (g + 3) 3 (.int .i64 d) by
    rw [hW0, hg]; have := VarIs.made (((w.alloc (.cells #[.pointer (some ⟨c, 0, none⟩)] 88)).alloc (.cells #[.bool xa, .int .i64 xf, .int .i64 xp, (.slice xpa xnp xpc), .int .i64 xn, (.slice xfa xnf xfc)] 49)).alloc (.cells #[.bool ya, .int .i64 yf, .int .i64 yp, (.slice ypa ynp ypc), .int .i64 yn, (.slice yfa ynf yfc)] 49)) 3 (.int .i64 (d : Int))
    simp only [alloc_hs] at this
    exact this)
  have hs0 : W0.heap.size = g + 4 := by rw [hW0, hg]; simp
  have hb0 : Below W0.heap.size W0 W := by rw [hW]; exact (Below.refl _ _).alloc (Nat.le_refl _) _
  have HBW := Lib.hid (HBW0.out.trans (hb0.mono HBW0.out.size))
  have HR := Lib.hid (show BoxAt W (g + 4) false 0 0 (.slice none 0 0) 0 (.slice none 0 0) by rw [hW, ← hs0]; exact BoxAt.made _ _ _ _ _ _ _)
  have HBX' := Lib.hid (HBX.out.keep hb0)
  have HBY' := Lib.hid (HBY.out.keep hb0)
  have HV1' := Lib.hid (HV1.out.keep hb0)
  have HV2' := Lib.hid (HV2.out.keep hb0)
  have HON := Lib.hid (hon W HBW.out)
  have HNE := Lib.hid (show g ≠ c ∧ g + 3 ≠ c by omega)
  have HJ := Lib.hid hJ
  have HW := Lib.hid (show W = ((((w.alloc (.cells #[.pointer (some ⟨c, 0, none⟩)] 88)).alloc (.cells #[.bool xa, .int .i64 xf, .int .i64 xp, (.slice xpa xnp xpc), .int .i64 xn, (.slice xfa xnf xfc)] 49)).alloc (.cells #[.bool ya, .int .i64 yf, .int .i64 yp, (.slice ypa ynp ypc), .int .i64 yn, (.slice yfa ynf yfc)] 49)).alloc (.cells #[.int .i64 (d : Int)] 3)).alloc (.cells #[.bool false, .int .i64 0, .int .i64 0, (.slice none 0 0), .int .i64 0, (.slice none 0 0)] 49) by rw [hW, hW0])
  clear hJ hon hW hW0 hs0 hb0 HBX HBY HV1 HV2 HBW0 hg hsz hk hd ih hx hy hclt hw hcost hpos hp1 hp2 okx oky hM hMc xhp xhf xhnp xhnf xha xhf' xhp' xhn yhp yhf yhnp yhnf yha yhf' yhp' yhn
  go_enter Try.func60, Try.ntmps60
  go_wp2_with fail
  rw [← HG.out, ← HW.out]
  refine HON.out.mono ?_
  rintro e w2 ⟨rfl, hs2, hc2⟩
  have b1 := HBX'.out.stay hs2 (by have := HG.out; have := HCL.out; omega)
  have b2 := HBY'.out.stay hs2 (by have := HG.out; have := HCL.out; omega)
  have x0 := b1.c0
  have x1 := b1.c1
  have x2 := b1.c2
  have x3 := b1.c3
  have x4 := b1.c4
  have x5 := b1.c5
  have y0 := b2.c0
  have y1 := b2.c1
  have y2 := b2.c2
  have y3 := b2.c3
  have y4 := b2.c4
  have y5 := b2.c5
  have HR2 := Lib.hid (HR.out.stay hs2 (by have := HG.out; have := HCL.out; omega))
  have HC2 := Lib.hid (HJ.out w2 ((Stay.of HBW.out).trans hs2) (Nat.lt_of_lt_of_le HR.out.lt hs2.size) hc2 (HV1'.out.stay hs2 HNE.out.1) (HV2'.out.stay hs2 HNE.out.2))
  have HS2 := Lib.hid ((Stay.of (N := (· = c)) HBW.out).trans hs2)
  clear hs2 hc2 b1 b2
  go_wp2_with fail
  refine HC2.out.mono ?_
  rintro e w3 ⟨⟨v, rfl, hv⟩, hs3, k3, hk3, hw3⟩
  obtain ⟨va, vf, vp, vpa, vnp, vpc, vk, vfa, vnf, vfc, rfl⟩ := hv.shape
  have hr := HR2.out.stay hs3 (by have := HG.out; have := HCL.out; omega)
  have r0 := hr.c0
  have r1 := hr.c1
  have r2 := hr.c2
  have r3 := hr.c3
  have r4 := hr.c4
  have r5 := hr.c5
  have rf := hr.fr
  have HV := Lib.hid hv
  have HS3 := Lib.hid (HS2.out.trans hs3)
  have HK3 := Lib.hid hk3
  have HW3 := Lib.hid hw3
  clear hv hs3 hr hk3 hw3
  clear x0 x1 x2 x3 x4 x5 y0 y1 y2 y3 y4 y5
  go_wp2
  refine bodyPost_ret (v := .agg #[.bool va, .int .i64 vf, .int .i64 vp, .slice vpa vnp vpc, .int .i64 vk, .slice vfa vnf vfc]) ?_ ?_ ?_
  · simp [results, Try.results60, go_sem, r0, r1, r2, r3, r4, r5]
  · rfl
  · exact ⟨⟨_, rfl, (TyVN.set6 (g := g + 4) HV.out (.inr rfl)).mono fun _ _ h => .inl h⟩, stay_six (g := g + 4) HS3.out (by rw [HG.out]; omega), k3, HK3.out, (set6_other (g := g + 4) (by have := HG.out; have := HCL.out; omega)).trans HW3.out⟩

theorem join_any' (M : Nat → Prop) (x y : Ty) (vx vy : Value) (w : World) (c k d : Nat) (hMc : M c) (hM : ∀ b, M b → b < w.heap.size) (okx : okTy x) (oky : okTy y) (hk : k + szT x * szT y ≤ 131072) (hd : d + (szT x + szT y) ≤ 1024) (hw : WalkAt c k w) (hx : TyVN M w vx x) (hy : TyVN M w vy y) :
    Calls Try.prog 60 #[.pointer (some ⟨c, 0, none⟩), vx, vy, .int .i64 d] w fun e w' => (∃ v, e = .returned v ∧ TyVN M w' v (joinT x y)) ∧ Stay (· = c) w w' ∧ ∃ k', k' ≤ k + szT x * szT y ∧ WalkAt c k' w' := by
  have key : ∀ n, JoinOK' n := by
    intro n
    induction n with
    | zero => intro M x y vx vy w c k d _ _ h; have := szT_pos x; omega
    | succ n ih => exact join_succ' n ih
  exact key _ M x y vx vy w c k d hMc hM (Nat.le_refl _) okx oky hk hd hw hx hy
end Go.Proofs.Ytgjkobkcmgliaaa
namespace Go.Proofs.Ytgjkobkcmgliaaa
open Go.RowKit

set_option maxRecDepth 100000 in
set_option maxHeartbeats 8000000 in
theorem join_p (M : Nat → Prop) (x y : Ty) (vx vy : Value) (w : World) (hM : ∀ b, M b → b < w.heap.size) (okx : okTy x) (oky : okTy y) (hk : szT x * szT y ≤ 131072) (hd : szT x + szT y ≤ 1024) (hx : TyVN M w vx x) (hy : TyVN M w vy y) :
    Calls Try.prog 31 #[vx, vy] w (TyPost M (joinT x y) w) := by
  obtain ⟨g, hg⟩ : ∃ g, g = w.heap.size := ⟨_, rfl⟩
  have hcall : ∀ (w1 : World), Below w.heap.size w w1 → w1.heap.size = g + 4 → WalkAt (g + 3) 0 w1 → Calls Try.prog 60 #[.pointer (some ⟨g + 3, 0, none⟩), vx, vy, .int .i64 0] w1
      fun e w' => (∃ v, e = .returned v ∧ TyVN (fun b => M b ∨ b = g + 2 ∨ b = g + 3) w' v (joinT x y)) ∧ Stay (· = g + 3) w1 w' := fun w1 h1 hs hw => by
    refine (join_any' (fun b => M b ∨ b = g + 2 ∨ b = g + 3) x y vx vy w1 (g + 3) 0 0 (.inr (.inr rfl)) (fun b h => ?_) okx oky (by omega) (by omega) hw (hx.later h1 fun b h => h.imp id fun h => by omega) (hy.later h1 fun b h => h.imp id fun h => by omega)).mono ?_
    · rcases h with h | h | h
      · have := hM b h; omega
      · omega
      · omega
    · rintro e w2 ⟨he, hs, _⟩
      exact ⟨he, hs⟩
  obtain ⟨xpa, xpc, xfa, xfc, rfl, xhp, xhf⟩ := hx.form
  obtain ⟨xnp, xhnp⟩ : ∃ n, n = x.pairs.length := ⟨_, rfl⟩
  obtain ⟨xnf, xhnf⟩ : ∃ n, n = x.funs.length := ⟨_, rfl⟩
  obtain ⟨xa, xha⟩ : ∃ a, a = x.all := ⟨_, rfl⟩
  obtain ⟨xf, xhf'⟩ : ∃ a, a = x.flat := ⟨_, rfl⟩
  obtain ⟨xp, xhp'⟩ : ∃ a, a = x.pair := ⟨_, rfl⟩
  obtain ⟨xn, xhn⟩ : ∃ a, a = x.fn := ⟨_, rfl⟩
  obtain ⟨ypa, ypc, yfa, yfc, rfl, yhp, yhf⟩ := hy.form
  obtain ⟨ynp, yhnp⟩ : ∃ n, n = y.pairs.length := ⟨_, rfl⟩
  obtain ⟨ynf, yhnf⟩ : ∃ n, n = y.funs.length := ⟨_, rfl⟩
  obtain ⟨ya, yha⟩ : ∃ a, a = y.all := ⟨_, rfl⟩
  obtain ⟨yf, yhf'⟩ : ∃ a, a = y.flat := ⟨_, rfl⟩
  obtain ⟨yp, yhp'⟩ : ∃ a, a = y.pair := ⟨_, rfl⟩
  obtain ⟨yn, yhn⟩ : ∃ a, a = y.fn := ⟨_, rfl⟩
  generalize joinT x y = z at hcall ⊢
  rw [← xhnp, ← xhnf, ← xha, ← xhf', ← xhp', ← xhn, ← yhnp, ← yhnf, ← yha, ← yhf', ← yhp', ← yhn] at hcall
  rw [← xhnp, ← xhnf, ← xha, ← xhf', ← xhp', ← xhn, ← yhnp, ← yhnf, ← yha, ← yhf', ← yhp', ← yhn]
  obtain ⟨W0, hW0⟩ : ∃ W0, W0 = ((w.alloc (.cells #[.bool xa, .int .i64 xf, .int .i64 xp, (.slice xpa xnp xpc), .int .i64 xn, (.slice xfa xnf xfc)] 49)).alloc (.cells #[.bool ya, .int .i64 yf, .int .i64 yp, (.slice ypa ynp ypc), .int .i64 yn, (.slice yfa ynf yfc)] 49)).alloc (.cells #[.bool false, .int .i64 0, .int .i64 0, (.slice none 0 0), .int .i64 0, (.slice none 0 0)] 49) := ⟨_, rfl⟩
  obtain ⟨W, hW⟩ : ∃ W, W = W0.alloc (.cells #[.int .i64 0] 90) := ⟨_, rfl⟩
  have hs0 : W0.heap.size = g + 3 := by rw [hW0, hg]; simp
  have hs1 : W.heap.size = g + 4 := by rw [hW, alloc_hs, hs0]
  have hb0 : Below W0.heap.size W0 W := by rw [hW]; exact (Below.refl _ _).alloc (Nat.le_refl _) _
  have HBW := Lib.hid (show Below w.heap.size w W from (show Below w.heap.size w W0 by rw [hW0]; exact (((Below.refl _ _).alloc (Nat.le_refl _) _).alloc (by simp) _).alloc (by simp; omega) _).trans (hb0.mono (by rw [hs0]; omega)))
  have HR := Lib.hid (show BoxAt W (g + 2) false 0 0 (.slice none 0 0) 0 (.slice none 0 0) by
    refine BoxAt.keep ?_ hb0
    rw [hW0, hg]; have := BoxAt.made ((w.alloc (.cells #[.bool xa, .int .i64 xf, .int .i64 xp, (.slice xpa xnp xpc), .int .i64 xn, (.slice xfa xnf xfc)] 49)).alloc (.cells #[.bool ya, .int .i64 yf, .int .i64 yp, (.slice ypa ynp ypc), .int .i64 yn, (.slice yfa ynf yfc)] 49)) false 0 0 (.slice none 0 0) 0 (.slice none 0 0)
    simp only [alloc_hs] at this
    exact this)
  have HV := Lib.hid (show WalkAt (g + 3) 0 W by rw [hW, ← hs0]; exact VarIs.made _ _ _)
  have HC := Lib.hid (hcall W HBW.out hs1 HV.out)
  have HW := Lib.hid (show W = (((w.alloc (.cells #[.bool xa, .int .i64 xf, .int .i64 xp, (.slice xpa xnp xpc), .int .i64 xn, (.slice xfa xnf xfc)] 49)).alloc (.cells #[.bool ya, .int .i64 yf, .int .i64 yp, (.slice ypa ynp ypc), .int .i64 yn, (.slice yfa ynf yfc)] 49)).alloc (.cells #[.bool false, .int .i64 0, .int .i64 0, (.slice none 0 0), .int .i64 0, (.slice none 0 0)] 49)).alloc (.cells #[.int .i64 0] 90) by rw [hW, hW0])
  have HG := Lib.hid hg
  clear hcall hW hW0 hs0 hs1 hb0 hg hk hd hx hy okx oky hM xhp xhf xhnp xhnf xha xhf' xhp' xhn yhp yhf yhnp yhnf yha yhf' yhp' yhn
  go_enter Try.func31, Try.ntmps31
  go_wp2_with fail
  rw [← HG.out, ← HW.out]
  refine HC.out.mono ?_
  rintro e w3 ⟨⟨v, rfl, hv⟩, hs3⟩
  obtain ⟨va, vf, vp, vpa, vnp, vpc, vk, vfa, vnf, vfc, rfl⟩ := hv.shape
  have hr := HR.out.stay hs3 (by omega)
  have r0 := hr.c0
  have r1 := hr.c1
  have r2 := hr.c2
  have r3 := hr.c3
  have r4 := hr.c4
  have r5 := hr.c5
  have rf := hr.fr
  have HV3 := Lib.hid hv
  have HB3 := Lib.hid (show Below w.heap.size w w3 from HBW.out.trans (hs3.below HBW.out.size fun k hk => by rw [hk, HG.out]; omega))
  clear hv hs3 hr
  go_wp2
  refine bodyPost_ret (v := .agg #[.bool va, .int .i64 vf, .int .i64 vp, .slice vpa vnp vpc, .int .i64 vk, .slice vfa vnf vfc]) ?_ ?_ ?_
  · simp [results, Try.results31, go_sem, r0, r1, r2, r3, r4, r5]
  · rfl
  · exact ⟨⟨_, rfl, (TyVN.set6 (g := g + 2) HV3.out (.inr (.inl rfl))).mono fun _ _ h => .inl h⟩, Below.set6 (g := g + 2) HB3.out (by rw [HG.out]; omega)⟩
end Go.Proofs.Ytgjkobkcmgliaaa
namespace Go.Proofs.Ytgjkobkcmgliaaa
open Go.RowKit

set_option maxRecDepth 100000 in
set_option maxHeartbeats 8000000 in
theorem sub_p (x y : Ty) (vx vy : Value) (w : World) (okx : okTy x) (oky : okTy y) (hk : szT x * szT y ≤ 131072) (hd : szT x + szT y ≤ 1024) (hx : TyV w vx x) (hy : TyV w vy y) :
    Calls Try.prog 32 #[vx, vy] w fun e w' => e = .returned (.bool (subT x y)) ∧ Below w.heap.size w w' := by
  have hcall : ∀ (w1 : World) (c : Nat), Below w.heap.size w w1 → w.heap.size ≤ c → WalkAt c 0 w1 → Calls Try.prog 61 #[.pointer (some ⟨c, 0, none⟩), vx, vy, .int .i64 0] w1
      fun e w' => e = .returned (.bool (subT x y)) ∧ Below w.heap.size w w' := fun w1 c h1 hc hw => by
    refine (sub_any' x y vx vy w1 c 0 0 okx oky (by omega) (by omega) hw (TyVN.later hx.n h1 fun b h => .inr (by omega)) (TyVN.later hy.n h1 fun b h => .inr (by omega))).mono ?_
    rintro e w2 ⟨he, hs, _⟩
    exact ⟨he, h1.trans (hs.below h1.size fun k hk => by omega)⟩
  obtain ⟨xpa, xpc, xfa, xfc, rfl, xhp, xhf⟩ := hx.form
  obtain ⟨xnp, xhnp⟩ : ∃ n, n = x.pairs.length := ⟨_, rfl⟩
  obtain ⟨xnf, xhnf⟩ : ∃ n, n = x.funs.length := ⟨_, rfl⟩
  obtain ⟨xa, xha⟩ : ∃ a, a = x.all := ⟨_, rfl⟩
  obtain ⟨xf, xhf'⟩ : ∃ a, a = x.flat := ⟨_, rfl⟩
  obtain ⟨xp, xhp'⟩ : ∃ a, a = x.pair := ⟨_, rfl⟩
  obtain ⟨xn, xhn⟩ : ∃ a, a = x.fn := ⟨_, rfl⟩
  obtain ⟨ypa, ypc, yfa, yfc, rfl, yhp, yhf⟩ := hy.form
  obtain ⟨ynp, yhnp⟩ : ∃ n, n = y.pairs.length := ⟨_, rfl⟩
  obtain ⟨ynf, yhnf⟩ : ∃ n, n = y.funs.length := ⟨_, rfl⟩
  obtain ⟨ya, yha⟩ : ∃ a, a = y.all := ⟨_, rfl⟩
  obtain ⟨yf, yhf'⟩ : ∃ a, a = y.flat := ⟨_, rfl⟩
  obtain ⟨yp, yhp'⟩ : ∃ a, a = y.pair := ⟨_, rfl⟩
  obtain ⟨yn, yhn⟩ : ∃ a, a = y.fn := ⟨_, rfl⟩
  generalize subT x y = z at hcall ⊢
  rw [← xhnp, ← xhnf, ← xha, ← xhf', ← xhp', ← xhn, ← yhnp, ← yhnf, ← yha, ← yhf', ← yhp', ← yhn] at hcall ⊢
  obtain ⟨W, hW⟩ : ∃ W, W = ((w.alloc (.cells #[.bool xa, .int .i64 xf, .int .i64 xp, (.slice xpa xnp xpc), .int .i64 xn, (.slice xfa xnf xfc)] 49)).alloc (.cells #[.bool ya, .int .i64 yf, .int .i64 yp, (.slice ypa ynp ypc), .int .i64 yn, (.slice yfa ynf yfc)] 49)).alloc (.cells #[.int .i64 0] 90) := ⟨_, rfl⟩
  have HBW := Lib.hid (show Below w.heap.size w W by rw [hW]; exact (((Below.refl _ _).alloc (Nat.le_refl _) _).alloc (by simp) _).alloc (by simp; omega) _)
  have HV := Lib.hid (show WalkAt (w.heap.size + 1 + 1) 0 W by rw [hW]; have := VarIs.made ((w.alloc (.cells #[.bool xa, .int .i64 xf, .int .i64 xp, (.slice xpa xnp xpc), .int .i64 xn, (.slice xfa xnf xfc)] 49)).alloc (.cells #[.bool ya, .int .i64 yf, .int .i64 yp, (.slice ypa ynp ypc), .int .i64 yn, (.slice yfa ynf yfc)] 49)) 90 (.int .i64 0); simp only [alloc_hs] at this; exact this)
  have HW := Lib.hid hW
  have HC := Lib.hid hcall
  clear hcall hW hk hd hx hy okx oky xhp xhf xhnp xhnf xha xhf' xhp' xhn yhp yhf yhnp yhnf yha yhf' yhp' yhn
  go_enter Try.func32, Try.ntmps32
  go_wp2_with fail
  rw [← HW.out]
  refine (HC.out W _ HBW.out (by omega) HV.out).mono ?_
  rintro e w2 ⟨rfl, hb2⟩
  go_wp2
  go_ret
  exact ⟨rfl, hb2⟩
end Go.Proofs.Ytgjkobkcmgliaaa
