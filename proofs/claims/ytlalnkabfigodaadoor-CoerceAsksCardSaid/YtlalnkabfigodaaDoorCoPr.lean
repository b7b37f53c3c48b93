import Derived.Test.YtlalnkabfigodaaDoorCoCf
import Derived.Test.YtlalnkabfigodaaDoorCoPa
-- joined
namespace Go.Proofs.YtlalnkabfigodaaDoor
open Go.Lib (hid)
open Go.RowKit

theorem six_flat (h : Hd) : six6 h.f0 h.f1 h.f2 h.f3 h.f4 h.f5 0 0 0 0 0 0 = (h.flat.all fun x => decide (x = 0)) := by
 rw [Bool.eq_iff_iff, six6_iff]
 unfold Hd.flat
 simp [List.all_cons, Bool.and_eq_true]

set_option maxRecDepth 100000 in
set_option maxHeartbeats 8000000 in
theorem pass_p (c : Co) (v : Value) (w : World) (hv : CoV w v c) : Calls Tryd.prog 14 #[v] w fun e w' => e = .returned (.bool (passC c)) ∧ Below w.heap.size w w' := by
 obtain ⟨pa, pc, fa, fc, rfl, hp, hf⟩ := hv.form
 obtain ⟨np, hnp⟩ : ∃ n, n = c.pairs.length := ⟨_, rfl⟩
 obtain ⟨nf, hnf⟩ : ∃ n, n = c.funs.length := ⟨_, rfl⟩
 rw [← hnp] at hp ⊢
 rw [← hnf] at hf ⊢
 have bp : (np : Int) ≤ 9223372036854775807 := by have := hp.len; rw [← hnp] at this; unfold maxLen at this; omega
 have bf : (nf : Int) ≤ 9223372036854775807 := by have := hf.len; rw [← hnf] at this; unfold maxLen at this; omega
 obtain ⟨W, hW⟩ : ∃ W, W = w.alloc (.cells #[.int .i64 c.h.f0, .int .i64 c.h.f1, .int .i64 c.h.f2, .int .i64 c.h.f3, .int .i64 c.h.f4, .int .i64 c.h.f5, .int .i64 c.h.pair, .int .i64 c.h.pl, .slice pa np pc, .int .i64 c.h.fn, .int .i64 c.h.fl, .slice fa nf fc] 25) := ⟨_, rfl⟩
 have HX := hid (show CBox W w.heap.size 25 ⟨c.h, .slice pa np pc, .slice fa nf fc⟩ by rw [hW]; exact CBox.made _ _ ⟨c.h, .slice pa np pc, .slice fa nf fc⟩)
 have HL := hid (show Below w.heap.size w W by rw [hW]; exact bAl _ _)
 have HP := hid (CoSN.below hp HL.out)
 have HF := hid (CoSN.below hf HL.out)
 have HPN := hid hnp
 have HFN := hid hnf
 have HW := hid hW
 clear hp hf hnp hnf hW hv
 obtain ⟨z, hz⟩ : ∃ z, z = passC c := ⟨_, rfl⟩
 rw [← hz]
 rw [pass_eq, ← six_flat, ← HPN.out, ← HFN.out] at hz
 have heq : ∀ w, (Op.equalIn 10000 22 (.agg #[.int .i64 c.h.f0, .int .i64 c.h.f1, .int .i64 c.h.f2, .int .i64 c.h.f3, .int .i64 c.h.f4, .int .i64 c.h.f5]) (.agg #[.int .i64 0, .int .i64 0, .int .i64 0, .int .i64 0, .int .i64 0, .int .i64 0])).run Tryd.prog w = .ok (six6 c.h.f0 c.h.f1 c.h.f2 c.h.f3 c.h.f4 c.h.f5 0 0 0 0 0 0) w := fun w => arr6_in w _ _ _ _ _ _ _ _ _ _ _ _
 obtain ⟨z6, hz6⟩ : ∃ z, z = six6 c.h.f0 c.h.f1 c.h.f2 c.h.f3 c.h.f4 c.h.f5 0 0 0 0 0 0 := ⟨_, rfl⟩
 rw [← hz6] at hz heq
 obtain ⟨z2, hz2⟩ : ∃ z, z = decide (c.h.pair = 0 ∧ c.h.pl = 0 ∧ np = 0 ∧ c.h.fn = 0 ∧ c.h.fl = 0 ∧ nf = 0) := ⟨_, rfl⟩
 rw [← hz2] at hz
 have HZ0 := hid hz
 have HZ := hid hz2
 clear hz hz2 hz6
 obtain ⟨x0, x1, x2, x3, x4, x5, x6, x7, x8, x9, x10, x11⟩ := HX.out.cs
 (try dsimp only at x0 x1 x2 x3 x4 x5 x6 x7 x8 x9 x10 x11)
 go_enter Tryd.func14, Tryd.ntmps14
 cases z6 with
 | false =>
  have e : z = false := HZ0.out
  subst e
  go_wp2
  refine bodyPost_ret (v := .bool false) ?_ ?_ ?_
  ·
   simp [results, Tryd.results14, go_sem]
  ·
   rfl
  ·
   exact ⟨rfl, by have := HL.out; rwa [HW.out] at this⟩
 | true =>
  have e : z = z2 := HZ0.out
  subst e
  by_cases kp : c.h.pair = 0
  case neg =>
   have bp : (c.h.pair == 0) = false := beq_false_of_ne kp
   have Kp := hid kp
   clear kp
   have e : z = false := by rw [HZ.out]; exact decide_eq_false fun h => Kp.out h.1
   subst e
   go_wp2
   refine bodyPost_ret (v := .bool false) ?_ ?_ ?_
   ·
    simp [results, Tryd.results14, go_sem]
   ·
    rfl
   ·
    exact ⟨rfl, by have := HL.out; rwa [HW.out] at this⟩
  have bp : (c.h.pair == 0) = true := by rw [kp]; rfl
  have Kp := hid kp
  clear kp
  by_cases kl : c.h.pl = 0
  case neg =>
   have bl : (c.h.pl == 0) = false := beq_false_of_ne kl
   have Kl := hid kl
   clear kl
   have e : z = false := by rw [HZ.out]; exact decide_eq_false fun h => Kl.out h.2.1
   subst e
   go_wp2
   refine bodyPost_ret (v := .bool false) ?_ ?_ ?_
   ·
    simp [results, Tryd.results14, go_sem]
   ·
    rfl
   ·
    exact ⟨rfl, by have := HL.out; rwa [HW.out] at this⟩
  have bl : (c.h.pl == 0) = true := by rw [kl]; rfl
  have Kl := hid kl
  clear kl
  by_cases kn : np = 0
  case neg =>
   have bn : ((np : Int) == 0) = false := beq_false_of_ne (by omega)
   have Kn := hid kn
   clear kn
   have e : z = false := by rw [HZ.out]; exact decide_eq_false fun h => Kn.out h.2.2.1
   subst e
   go_wp2
   refine bodyPost_ret (v := .bool false) ?_ ?_ ?_
   ·
    simp [results, Tryd.results14, go_sem]
   ·
    rfl
   ·
    exact ⟨rfl, by have := HL.out; rwa [HW.out] at this⟩
  have bn : ((np : Int) == 0) = true := by rw [kn]; rfl
  have Kn := hid kn
  clear kn
  by_cases kq : c.h.fn = 0
  case neg =>
   have bq : (c.h.fn == 0) = false := beq_false_of_ne kq
   have Kq := hid kq
   clear kq
   have e : z = false := by rw [HZ.out]; exact decide_eq_false fun h => Kq.out h.2.2.2.1
   subst e
   go_wp2
   refine bodyPost_ret (v := .bool false) ?_ ?_ ?_
   ·
    simp [results, Tryd.results14, go_sem]
   ·
    rfl
   ·
    exact ⟨rfl, by have := HL.out; rwa [HW.out] at this⟩
  have bq : (c.h.fn == 0) = true := by rw [kq]; rfl
  have Kq := hid kq
  clear kq
  by_cases km : c.h.fl = 0
  case neg =>
   have bm : (c.h.fl == 0) = false := beq_false_of_ne km
   have Km := hid km
   clear km
   have e : z = false := by rw [HZ.out]; exact decide_eq_false fun h => Km.out h.2.2.2.2.1
   subst e
   go_wp2
   refine bodyPost_ret (v := .bool false) ?_ ?_ ?_
   ·
    simp [results, Tryd.results14, go_sem]
   ·
    rfl
   ·
    exact ⟨rfl, by have := HL.out; rwa [HW.out] at this⟩
  have bm : (c.h.fl == 0) = true := by rw [km]; rfl
  have Km := hid km
  clear km
  by_cases kf : nf = 0
  case neg =>
   have bf : ((nf : Int) == 0) = false := beq_false_of_ne (by omega)
   have Kf := hid kf
   clear kf
   have e : z = false := by rw [HZ.out]; exact decide_eq_false fun h => Kf.out h.2.2.2.2.2
   subst e
   go_wp2
   refine bodyPost_ret (v := .bool false) ?_ ?_ ?_
   ·
    simp [results, Tryd.results14, go_sem]
   ·
    rfl
   ·
    exact ⟨rfl, by have := HL.out; rwa [HW.out] at this⟩
  have bf : ((nf : Int) == 0) = true := by rw [kf]; rfl
  have Kf := hid kf
  clear kf
  have e : z = true := by rw [HZ.out]; exact decide_eq_true ⟨Kp.out, Kl.out, Kn.out, Kq.out, Km.out, Kf.out⟩
  subst e
  go_wp2
  refine bodyPost_ret (v := .bool true) ?_ ?_ ?_
  ·
   simp [results, Tryd.results14, go_sem]
  ·
   rfl
  ·
   exact ⟨rfl, by have := HL.out; rwa [HW.out] at this⟩
end Go.Proofs.YtlalnkabfigodaaDoor
namespace Go.Proofs.YtlalnkabfigodaaDoor
open Go.Lib (hid)
open Go.RowKit

set_option maxRecDepth 100000 in
set_option maxHeartbeats 8000000 in
theorem allpass1_p (c : Co) (v : Value) (w : World) (hv : CoV w v c) : Calls Tryd.prog 95 #[v] w fun e w' => e = .returned (.bool (!passC c)) ∧ Below w.heap.size w w' := by
 have C := fun w1 (hb : Below w.heap.size w w1) => (pass_p c v w1 (hv.below hb)).mono fun e w' h => (⟨h.1, hb.trans (h.2.mono hb.size)⟩ : e = .returned (.bool (passC c)) ∧ Below w.heap.size w w')
 obtain ⟨pa, pc, fa, fc, rfl, hp, hf⟩ := hv.form
 obtain ⟨np, hnp⟩ : ∃ n, n = c.pairs.length := ⟨_, rfl⟩
 obtain ⟨nf, hnf⟩ : ∃ n, n = c.funs.length := ⟨_, rfl⟩
 rw [← hnp, ← hnf] at C ⊢
 generalize passC c = z at C ⊢
 have HC := hid C
 clear C hp hf hnp hnf hv
 go_enter Tryd.func95, Tryd.ntmps95
 go_wp2_with fail
 refine (HC.out _ (bAl _ _)).mono ?_
 rintro e w2 ⟨rfl, hb⟩
 go_wp2
 go_ret
 exact ⟨rfl, hb⟩

set_option maxRecDepth 100000 in
set_option maxHeartbeats 8000000 in
theorem allpass_p (l : List Co) (pa : Option Addr) (pc : Nat) (w : World) (hl : CoS w (Lc NC w) (.slice pa l.length pc) l) : Calls Tryd.prog 92 #[.slice pa l.length pc] w fun e w' => e = .returned (.bool (allC l)) ∧ Below w.heap.size w w' := by
 have F : FnV (σ := Unit) (CoVN NC) NC (fun _ _ => True) 95 #[] w (fun _ _ => True) (BoolR fun c => !passC c) (fun _ _ _ => True) := by
  refine ⟨fun _ _ _ _ _ => trivial, fun _ _ => rfl, fun w1 vx x s h1 _ _ h2 => ?_⟩
  refine (allpass1_p x vx w1 h2).mono ?_
  rintro e w2 ⟨he, hb⟩
  exact ⟨⟨_, he, rfl⟩, .of hb, (), trivial, trivial⟩
 have C := (containsc_any F l pa pc w () .refl trivial hl (fun _ _ _ _ => trivial)).mono fun e w' h => (⟨h.1, h.2.1.none⟩ : e = .returned (.bool (l.any fun c => !passC c)) ∧ Below w.heap.size w w')
 have hz : (!l.any fun c => !passC c) = allC l := by unfold allC; rw [List.all_eq_not_any_not]
 obtain ⟨n, hn⟩ : ∃ n, n = l.length := ⟨_, rfl⟩
 rw [← hn] at C ⊢
 rw [← hz]
 generalize (l.any fun c => !passC c) = z at C ⊢
 have HC := hid C
 clear C F hl hz hn
 go_enter Tryd.func92, Tryd.ntmps92
 go_wp2_with fail
 refine HC.out.mono ?_
 rintro e w2 ⟨rfl, hb⟩
 go_wp2
 go_ret
 exact ⟨rfl, hb⟩

/-- no label -/
def noLab (n : Int) : Bool := decide (n < 0) || decide (99 < n)
theorem noLab_rng (n : Int) : noLab n = !decide (rng n) := by
 by_cases h : 0 ≤ n ∧ n ≤ 99
 ·
  rw [decide_eq_true (show rng n from h)]
  unfold noLab
  rw [decide_eq_false (by omega), decide_eq_false (by omega)]; rfl
 ·
  rw [decide_eq_false (show ¬ rng n from h)]
  unfold noLab
  by_cases h1 : n < 0
  ·
   rw [decide_eq_true h1]; rfl
  ·
   rw [decide_eq_true (show 99 < n by omega), Bool.or_true]; rfl

set_option maxRecDepth 100000 in
set_option maxHeartbeats 8000000 in
theorem nolab_p (n : Int) (w : World) : Calls Tryd.prog 70 #[.int .i64 n] w fun e w' => e = .returned (.bool (noLab n)) ∧ w' = w := by
 obtain ⟨z, hz⟩ : ∃ z, z = noLab n := ⟨_, rfl⟩
 rw [← hz]
 unfold noLab at hz
 by_cases h1 : n < 0
 ·
  rw [decide_eq_true h1, Bool.true_or] at hz
  subst hz
  go_enter Tryd.func70, Tryd.ntmps70
  go_wp2
  go_ret
  exact ⟨rfl, rfl⟩
 ·
  rw [decide_eq_false h1, Bool.false_or] at hz
  have HZ := hid hz
  clear hz
  go_enter Tryd.func70, Tryd.ntmps70
  go_wp2
  go_ret
  exact ⟨ret_bool (by rw [HZ.out]), rfl⟩

set_option maxRecDepth 100000 in
set_option maxHeartbeats 8000000 in
theorem indexi_p (l : List Int) (b n : Nat) (w : World) (hn : n = l.length) (hn2 : n ≤ 100) (hc : ∀ j, j < n → w.cell? ⟨b, j, none⟩ = some (.int .i64 (l.getD j 0))) :
  Calls Tryd.prog 91 #[.slice (some ⟨b, 0, none⟩) n n, .func (.func 70) #[] #[]] w fun e w' => (∃ i : Int, e = .returned (.int .i64 i) ∧ decide (0 ≤ i) = l.any noLab) ∧ w' = w := by
 have eg : ∀ (args : Array Value) (w : World), (callFunc 70 args).run Tryd.prog w = .ok (.enter 70 args) w := fun _ _ => rfl
 have HN := hid hn
 have HC := hid hc
 have hn3 : (n : Int) ≤ 100 := by omega
 clear hn hc hn2
 go_enter Tryd.func91, Tryd.ntmps91
 go_wp2
 go_loopw [5, 8] (fun _ i wr => wr = w ∧ ∃ j : Nat, j ≤ n ∧ i = .int .i64 j ∧ Hid (∀ i, i < j → noLab (l.getD i 0) = false)) (fun _ i _ => n - (intOf i).toNat)
 case atStart => exact ⟨rfl, 0, Nat.zero_le _, rfl, hid (fun j hj => absurd hj (Nat.not_lt_zero _))⟩
 case round =>
  obtain ⟨rfl, j, hj, rfl, HA⟩ := hrel
  by_cases hgo : j < n
  ·
   have hlt : (j : Int) < n := by omega
   have hj0 : (0 : Int) ≤ (j : Int) := by omega
   have hcj := HC.out j hgo
   obtain ⟨d, hd⟩ : ∃ d, l.getD j 0 = d := ⟨_, rfl⟩
   rw [hd] at hcj
   have HD := hid hd
   have HGO := hid hgo
   clear hd hgo
   go_wp2_with fail
   refine (nolab_p d wr).mono ?_
   rintro e w2 ⟨rfl, rfl⟩
   obtain ⟨z, hz⟩ : ∃ z, z = noLab d := ⟨_, rfl⟩
   rw [← hz]
   have HZ := hid hz
   clear hz
   cases z with
   | true =>
    go_wp2
    go_ret
    refine ⟨⟨_, rfl, ?_⟩, rfl⟩
    have : l.any noLab = true := List.any_eq_true.2 ⟨d, by rw [← HD.out, List.getD_eq_getElem?_getD, List.getElem?_eq_getElem (by rw [← HN.out]; exact HGO.out)]; exact List.getElem_mem _, HZ.out.symm⟩
    rw [this]; exact decide_eq_true (by omega)
   | false =>
    go_wp2
    refine ⟨⟨trivial, j + 1, by have := HGO.out; omega, by go_num, hid fun i hi => ?_⟩, by have := HGO.out; simp [intOf]; omega⟩
    by_cases hij : i < j
    ·
     exact HA.out i hij
    ·
     obtain rfl : i = j := by omega
     rw [HD.out]; exact HZ.out.symm
  ·
   have hend : l.any noLab = false := by
    rw [List.any_eq_false]
    intro x hx
    obtain ⟨i, hi, rfl⟩ := List.getElem_of_mem hx
    have := HA.out i (by rw [← HN.out] at hi; omega)
    simpa [List.getD_eq_getElem?_getD, hi] using this
   have hlt : ¬ (j : Int) < n := by omega
   have HE := hid hend
   clear hend HA hgo hj
   go_wp2
   go_ret
   exact ⟨⟨_, rfl, by rw [HE.out]; rfl⟩, rfl⟩

set_option maxRecDepth 100000 in
set_option maxHeartbeats 8000000 in
theorem containsi_p (l : List Int) (b n : Nat) (w : World) (hn : n = l.length) (hn2 : n ≤ 100) (hc : ∀ j, j < n → w.cell? ⟨b, j, none⟩ = some (.int .i64 (l.getD j 0))) :
  Calls Tryd.prog 69 #[.slice (some ⟨b, 0, none⟩) n n, .func (.func 70) #[] #[]] w fun e w' => e = .returned (.bool (l.any noLab)) ∧ w' = w := by
 have C := indexi_p l b n w hn hn2 hc
 generalize l.any noLab = z at C ⊢
 have HC := hid C
 clear C hn hn2 hc
 go_enter Tryd.func69, Tryd.ntmps69
 go_wp2_with fail
 refine HC.out.mono ?_
 rintro e w2 ⟨⟨i, rfl, hi⟩, rfl⟩
 have HI := hid hi
 clear hi
 go_wp2
 go_ret
 exact ⟨ret_bool (by rw [← HI.out]), rfl⟩
end Go.Proofs.YtlalnkabfigodaaDoor
namespace Go.Proofs.YtlalnkabfigodaaDoor
open Go.Lib (hid)
open Go.RowKit

/-- one's own fields of pairs, and of procedures -/
def rpC (c : Co) : Bool := if c.h.pair = 0 then decide (c.pairs.length = 0) && decide (c.h.pl = 0) else if c.h.pair = 1 then decide (c.pairs.length = 0) && !decide (c.h.pl = 0) else
 if c.h.pair = 2 then decide (c.pairs.length = 2) && decide (c.h.pl = 0) && !allC c.pairs else if c.h.pair = 3 then decide (c.pairs.length = 1) && (!decide (c.h.pl = 0) || !allC c.pairs) else false
def rfC (c : Co) : Bool := if c.h.fn = 0 then decide (c.funs.length = 0) && decide (c.h.fl = 0) else if c.h.fn = 1 then decide (c.funs.length = 0) && !decide (c.h.fl = 0) else
 if c.h.fn = 2 then decide (c.funs.length ≤ 9) && decide (c.h.fl = 0) && !allC c.funs else if c.h.fn = 3 then decide (c.funs.length = 0) && decide (c.h.fl = 0) else false

set_option maxRecDepth 100000 in
set_option maxHeartbeats 16000000 in
theorem rightpairs_p (c : Co) (v : Value) (w : World) (hv : CoV w v c) : Calls Tryd.prog 71 #[v] w fun e w' => e = .returned (.bool (rpC c)) ∧ Below w.heap.size w w' := by
 obtain ⟨pa, pc, fa, fc, rfl, hp, hf⟩ := hv.form
 obtain ⟨np, hnp⟩ : ∃ n, n = c.pairs.length := ⟨_, rfl⟩
 obtain ⟨nf, hnf⟩ : ∃ n, n = c.funs.length := ⟨_, rfl⟩
 rw [← hnp] at hp ⊢
 rw [← hnf] at hf ⊢
 have bp : (np : Int) ≤ 9223372036854775807 := by have := hp.len; rw [← hnp] at this; unfold maxLen at this; omega
 have bf : (nf : Int) ≤ 9223372036854775807 := by have := hf.len; rw [← hnf] at this; unfold maxLen at this; omega
 obtain ⟨W, hW⟩ : ∃ W, W = w.alloc (.cells #[.int .i64 c.h.f0, .int .i64 c.h.f1, .int .i64 c.h.f2, .int .i64 c.h.f3, .int .i64 c.h.f4, .int .i64 c.h.f5, .int .i64 c.h.pair, .int .i64 c.h.pl, .slice pa np pc, .int .i64 c.h.fn, .int .i64 c.h.fl, .slice fa nf fc] 25) := ⟨_, rfl⟩
 have HX := hid (show CBox W w.heap.size 25 ⟨c.h, .slice pa np pc, .slice fa nf fc⟩ by rw [hW]; exact CBox.made _ _ ⟨c.h, .slice pa np pc, .slice fa nf fc⟩)
 have HL := hid (show Below w.heap.size w W by rw [hW]; exact bAl _ _)
 have HP := hid (CoSN.below hp HL.out)
 have HF := hid (CoSN.below hf HL.out)
 have HPN := hid hnp
 have HFN := hid hnf
 have HW := hid hW
 clear hp hf hnp hnf hW hv
 have hall : Calls Tryd.prog 92 #[.slice pa np pc] W fun e w' => e = .returned (.bool (allC c.pairs)) ∧ Below w.heap.size w w' := by
  have h := HP.out
  rw [HPN.out] at h ⊢
  refine (allpass_p c.pairs _ _ W h).mono ?_
  rintro e w2 ⟨he, hb⟩
  exact ⟨he, HL.out.trans (hb.mono HL.out.size)⟩
 obtain ⟨z, hz⟩ : ∃ z, z = rpC c := ⟨_, rfl⟩
 rw [← hz]
 unfold rpC at hz
 rw [← HPN.out] at hz
 generalize allC c.pairs = za at hz hall
 have HALL := hid hall
 have HZ := hid hz
 clear hz hall
 by_cases k0 : c.h.pair = 0
 case pos =>
  have b0 : (c.h.pair == 0) = true := by rw [k0]; rfl
  have b1 : (c.h.pair == 1) = false := by rw [k0]; rfl
  have b2 : (c.h.pair == 2) = false := by rw [k0]; rfl
  have b3 : (c.h.pair == 3) = false := by rw [k0]; rfl
  have HZ2 := hid (show z = (decide (np = 0) && decide (c.h.pl = 0)) by rw [HZ.out]; simp [k0])
  clear HZ
  have KK := hid k0
  clear k0
  go_enter Tryd.func71, Tryd.ntmps71
  by_cases kn : np = 0
  case neg =>
   have bn : ((np : Int) == 0) = false := beq_false_of_ne (by omega)
   have Kn := hid kn
   clear kn
   have e : z = false := by rw [HZ2.out]; simp [Kn.out]
   subst e
   go_wp2
   refine bodyPost_ret (v := .bool false) ?_ ?_ ?_
   ·
    simp [results, Tryd.results71, go_sem]
   ·
    rfl
   ·
    exact ⟨rfl, by have := HL.out; rwa [HW.out] at this⟩
  have bn : ((np : Int) == 0) = true := by rw [kn]; rfl
  have Kn := hid kn
  clear kn
  by_cases kl : c.h.pl = 0
  case neg =>
   have bl : (c.h.pl == 0) = false := beq_false_of_ne kl
   have Kl := hid kl
   clear kl
   have e : z = false := by rw [HZ2.out]; simp [Kl.out]
   subst e
   go_wp2
   refine bodyPost_ret (v := .bool false) ?_ ?_ ?_
   ·
    simp [results, Tryd.results71, go_sem]
   ·
    rfl
   ·
    exact ⟨rfl, by have := HL.out; rwa [HW.out] at this⟩
  have bl : (c.h.pl == 0) = true := by rw [kl]; rfl
  have Kl := hid kl
  clear kl
  have e : z = true := by rw [HZ2.out]; simp [Kn.out, Kl.out]
  subst e
  go_wp2
  refine bodyPost_ret (v := .bool true) ?_ ?_ ?_
  ·
   simp [results, Tryd.results71, go_sem]
  ·
   rfl
  ·
   exact ⟨rfl, by have := HL.out; rwa [HW.out] at this⟩
 by_cases k1 : c.h.pair = 1
 case pos =>
  clear k0
  have b0 : (c.h.pair == 0) = false := by rw [k1]; rfl
  have b1 : (c.h.pair == 1) = true := by rw [k1]; rfl
  have b2 : (c.h.pair == 2) = false := by rw [k1]; rfl
  have b3 : (c.h.pair == 3) = false := by rw [k1]; rfl
  have HZ2 := hid (show z = (decide (np = 0) && !decide (c.h.pl = 0)) by rw [HZ.out]; simp [k1])
  clear HZ
  have KK := hid k1
  clear k1
  go_enter Tryd.func71, Tryd.ntmps71
  by_cases kn : np = 0
  case neg =>
   have bn : ((np : Int) == 0) = false := beq_false_of_ne (by omega)
   have Kn := hid kn
   clear kn
   have e : z = false := by rw [HZ2.out]; simp [Kn.out]
   subst e
   go_wp2
   refine bodyPost_ret (v := .bool false) ?_ ?_ ?_
   ·
    simp [results, Tryd.results71, go_sem]
   ·
    rfl
   ·
    exact ⟨rfl, by have := HL.out; rwa [HW.out] at this⟩
  have bn : ((np : Int) == 0) = true := by rw [kn]; rfl
  have Kn := hid kn
  clear kn
  by_cases kl : c.h.pl ≠ 0
  case neg =>
   have bl : (c.h.pl != 0) = false := by have := Decidable.not_not.1 kl; rw [this]; rfl
   have Kl := hid kl
   clear kl
   have e : z = false := by rw [HZ2.out]; simp [Decidable.not_not.1 Kl.out]
   subst e
   go_wp2
   refine bodyPost_ret (v := .bool false) ?_ ?_ ?_
   ·
    simp [results, Tryd.results71, go_sem]
   ·
    rfl
   ·
    exact ⟨rfl, by have := HL.out; rwa [HW.out] at this⟩
  have bl : (c.h.pl != 0) = true := bne_iff_ne.2 kl
  have Kl := hid kl
  clear kl
  have e : z = true := by rw [HZ2.out]; simp [Kn.out, Kl.out]
  subst e
  go_wp2
  refine bodyPost_ret (v := .bool true) ?_ ?_ ?_
  ·
   simp [results, Tryd.results71, go_sem]
  ·
   rfl
  ·
   exact ⟨rfl, by have := HL.out; rwa [HW.out] at this⟩
 by_cases k2 : c.h.pair = 2
 case pos =>
  clear k0
  clear k1
  have b0 : (c.h.pair == 0) = false := by rw [k2]; rfl
  have b1 : (c.h.pair == 1) = false := by rw [k2]; rfl
  have b2 : (c.h.pair == 2) = true := by rw [k2]; rfl
  have b3 : (c.h.pair == 3) = false := by rw [k2]; rfl
  have HZ2 := hid (show z = (decide (np = 2) && decide (c.h.pl = 0) && !za) by rw [HZ.out]; simp [k2])
  clear HZ
  have KK := hid k2
  clear k2
  go_enter Tryd.func71, Tryd.ntmps71
  by_cases kn : np = 2
  case neg =>
   have bn : ((np : Int) == 2) = false := beq_false_of_ne (by omega)
   have Kn := hid kn
   clear kn
   have e : z = false := by rw [HZ2.out]; simp [Kn.out]
   subst e
   go_wp2
   refine bodyPost_ret (v := .bool false) ?_ ?_ ?_
   ·
    simp [results, Tryd.results71, go_sem]
   ·
    rfl
   ·
    exact ⟨rfl, by have := HL.out; rwa [HW.out] at this⟩
  have bn : ((np : Int) == 2) = true := by rw [kn]; rfl
  have Kn := hid kn
  clear kn
  by_cases kl : c.h.pl = 0
  case neg =>
   have bl : (c.h.pl == 0) = false := beq_false_of_ne kl
   have Kl := hid kl
   clear kl
   have e : z = false := by rw [HZ2.out]; simp [Kl.out]
   subst e
   go_wp2
   refine bodyPost_ret (v := .bool false) ?_ ?_ ?_
   ·
    simp [results, Tryd.results71, go_sem]
   ·
    rfl
   ·
    exact ⟨rfl, by have := HL.out; rwa [HW.out] at this⟩
  have bl : (c.h.pl == 0) = true := by rw [kl]; rfl
  have Kl := hid kl
  clear kl
  go_wp2_with fail
  rw [← HW.out]
  refine HALL.out.mono ?_
  rintro e w2 ⟨rfl, hb⟩
  have HB2 := hid hb
  clear hb
  cases za with
  | true =>
   have e : z = false := by rw [HZ2.out]; simp
   subst e
   go_wp2
   refine bodyPost_ret (v := .bool false) ?_ ?_ ?_
   ·
    simp [results, Tryd.results71, go_sem]
   ·
    rfl
   ·
    exact ⟨rfl, HB2.out⟩
  | false =>
   have e : z = true := by rw [HZ2.out]; simp [Kn.out, Kl.out]
   subst e
   go_wp2
   refine bodyPost_ret (v := .bool true) ?_ ?_ ?_
   ·
    simp [results, Tryd.results71, go_sem]
   ·
    rfl
   ·
    exact ⟨rfl, HB2.out⟩
 by_cases k3 : c.h.pair = 3
 case pos =>
  clear k0
  clear k1
  clear k2
  have b0 : (c.h.pair == 0) = false := by rw [k3]; rfl
  have b1 : (c.h.pair == 1) = false := by rw [k3]; rfl
  have b2 : (c.h.pair == 2) = false := by rw [k3]; rfl
  have b3 : (c.h.pair == 3) = true := by rw [k3]; rfl
  have HZ2 := hid (show z = (decide (np = 1) && (!decide (c.h.pl = 0) || !za)) by rw [HZ.out]; simp [k3])
  clear HZ
  have KK := hid k3
  clear k3
  go_enter Tryd.func71, Tryd.ntmps71
  by_cases kn : np = 1
  case neg =>
   have bn : ((np : Int) == 1) = false := beq_false_of_ne (by omega)
   have Kn := hid kn
   clear kn
   have e : z = false := by rw [HZ2.out]; simp [Kn.out]
   subst e
   go_wp2
   refine bodyPost_ret (v := .bool false) ?_ ?_ ?_
   ·
    simp [results, Tryd.results71, go_sem]
   ·
    rfl
   ·
    exact ⟨rfl, by have := HL.out; rwa [HW.out] at this⟩
  have bn : ((np : Int) == 1) = true := by rw [kn]; rfl
  have Kn := hid kn
  clear kn
  by_cases kl : c.h.pl = 0
  case neg =>
   have bl : (c.h.pl != 0) = true := bne_iff_ne.2 kl
   have Kl := hid kl
   clear kl
   have e : z = true := by rw [HZ2.out]; simp [Kn.out, Kl.out]
   subst e
   go_wp2
   refine bodyPost_ret (v := .bool true) ?_ ?_ ?_
   ·
    simp [results, Tryd.results71, go_sem]
   ·
    rfl
   ·
    exact ⟨rfl, by have := HL.out; rwa [HW.out] at this⟩
  have bl : (c.h.pl != 0) = false := by rw [kl]; rfl
  have Kl := hid kl
  clear kl
  go_wp2_with fail
  rw [← HW.out]
  refine HALL.out.mono ?_
  rintro e w2 ⟨rfl, hb⟩
  have HB2 := hid hb
  clear hb
  cases za with
  | true =>
   have e : z = false := by rw [HZ2.out]; simp [Kl.out]
   subst e
   go_wp2
   refine bodyPost_ret (v := .bool false) ?_ ?_ ?_
   ·
    simp [results, Tryd.results71, go_sem]
   ·
    rfl
   ·
    exact ⟨rfl, HB2.out⟩
  | false =>
   have e : z = true := by rw [HZ2.out]; simp [Kn.out]
   subst e
   go_wp2
   refine bodyPost_ret (v := .bool true) ?_ ?_ ?_
   ·
    simp [results, Tryd.results71, go_sem]
   ·
    rfl
   ·
    exact ⟨rfl, HB2.out⟩
 have b0 : (c.h.pair == 0) = false := beq_false_of_ne k0
 have b1 : (c.h.pair == 1) = false := beq_false_of_ne k1
 have b2 : (c.h.pair == 2) = false := beq_false_of_ne k2
 have b3 : (c.h.pair == 3) = false := beq_false_of_ne k3
 have HZ2 := hid (show z = false by rw [HZ.out]; simp [k0, k1, k2, k3])
 clear HZ k0 k1 k2 k3
 go_enter Tryd.func71, Tryd.ntmps71
 have e : z = false := HZ2.out
 subst e
 go_wp2
 refine bodyPost_ret (v := .bool false) ?_ ?_ ?_
 ·
  simp [results, Tryd.results71, go_sem]
 ·
  rfl
 ·
  exact ⟨rfl, by have := HL.out; rwa [HW.out] at this⟩

set_option maxRecDepth 100000 in
set_option maxHeartbeats 16000000 in
theorem rightfuns_p (c : Co) (v : Value) (w : World) (hv : CoV w v c) : Calls Tryd.prog 72 #[v] w fun e w' => e = .returned (.bool (rfC c)) ∧ Below w.heap.size w w' := by
 obtain ⟨pa, pc, fa, fc, rfl, hp, hf⟩ := hv.form
 obtain ⟨np, hnp⟩ : ∃ n, n = c.pairs.length := ⟨_, rfl⟩
 obtain ⟨nf, hnf⟩ : ∃ n, n = c.funs.length := ⟨_, rfl⟩
 rw [← hnp] at hp ⊢
 rw [← hnf] at hf ⊢
 have bp : (np : Int) ≤ 9223372036854775807 := by have := hp.len; rw [← hnp] at this; unfold maxLen at this; omega
 have bf : (nf : Int) ≤ 9223372036854775807 := by have := hf.len; rw [← hnf] at this; unfold maxLen at this; omega
 obtain ⟨W, hW⟩ : ∃ W, W = w.alloc (.cells #[.int .i64 c.h.f0, .int .i64 c.h.f1, .int .i64 c.h.f2, .int .i64 c.h.f3, .int .i64 c.h.f4, .int .i64 c.h.f5, .int .i64 c.h.pair, .int .i64 c.h.pl, .slice pa np pc, .int .i64 c.h.fn, .int .i64 c.h.fl, .slice fa nf fc] 25) := ⟨_, rfl⟩
 have HX := hid (show CBox W w.heap.size 25 ⟨c.h, .slice pa np pc, .slice fa nf fc⟩ by rw [hW]; exact CBox.made _ _ ⟨c.h, .slice pa np pc, .slice fa nf fc⟩)
 have HL := hid (show Below w.heap.size w W by rw [hW]; exact bAl _ _)
 have HP := hid (CoSN.below hp HL.out)
 have HF := hid (CoSN.below hf HL.out)
 have HPN := hid hnp
 have HFN := hid hnf
 have HW := hid hW
 clear hp hf hnp hnf hW hv
 have hall : Calls Tryd.prog 92 #[.slice fa nf fc] W fun e w' => e = .returned (.bool (allC c.funs)) ∧ Below w.heap.size w w' := by
  have h := HF.out
  rw [HFN.out] at h ⊢
  refine (allpass_p c.funs _ _ W h).mono ?_
  rintro e w2 ⟨he, hb⟩
  exact ⟨he, HL.out.trans (hb.mono HL.out.size)⟩
 obtain ⟨z, hz⟩ : ∃ z, z = rfC c := ⟨_, rfl⟩
 rw [← hz]
 unfold rfC at hz
 rw [← HFN.out] at hz
 generalize allC c.funs = za at hz hall
 have HALL := hid hall
 have HZ := hid hz
 clear hz hall
 by_cases k0 : c.h.fn = 0
 case pos =>
  have b0 : (c.h.fn == 0) = true := by rw [k0]; rfl
  have b1 : (c.h.fn == 1) = false := by rw [k0]; rfl
  have b2 : (c.h.fn == 2) = false := by rw [k0]; rfl
  have b3 : (c.h.fn == 3) = false := by rw [k0]; rfl
  have HZ2 := hid (show z = (decide (nf = 0) && decide (c.h.fl = 0)) by rw [HZ.out]; simp [k0])
  clear HZ
  have KK := hid k0
  clear k0
  go_enter Tryd.func72, Tryd.ntmps72
  by_cases kn : nf = 0
  case neg =>
   have bn : ((nf : Int) == 0) = false := beq_false_of_ne (by omega)
   have Kn := hid kn
   clear kn
   have e : z = false := by rw [HZ2.out]; simp [Kn.out]
   subst e
   go_wp2
   refine bodyPost_ret (v := .bool false) ?_ ?_ ?_
   ·
    simp [results, Tryd.results72, go_sem]
   ·
    rfl
   ·
    exact ⟨rfl, by have := HL.out; rwa [HW.out] at this⟩
  have bn : ((nf : Int) == 0) = true := by rw [kn]; rfl
  have Kn := hid kn
  clear kn
  by_cases kl : c.h.fl = 0
  case neg =>
   have bl : (c.h.fl == 0) = false := beq_false_of_ne kl
   have Kl := hid kl
   clear kl
   have e : z = false := by rw [HZ2.out]; simp [Kl.out]
   subst e
   go_wp2
   refine bodyPost_ret (v := .bool false) ?_ ?_ ?_
   ·
    simp [results, Tryd.results72, go_sem]
   ·
    rfl
   ·
    exact ⟨rfl, by have := HL.out; rwa [HW.out] at this⟩
  have bl : (c.h.fl == 0) = true := by rw [kl]; rfl
  have Kl := hid kl
  clear kl
  have e : z = true := by rw [HZ2.out]; simp [Kn.out, Kl.out]
  subst e
  go_wp2
  refine bodyPost_ret (v := .bool true) ?_ ?_ ?_
  ·
   simp [results, Tryd.results72, go_sem]
  ·
   rfl
  ·
   exact ⟨rfl, by have := HL.out; rwa [HW.out] at this⟩
 by_cases k1 : c.h.fn = 1
 case pos =>
  clear k0
  have b0 : (c.h.fn == 0) = false := by rw [k1]; rfl
  have b1 : (c.h.fn == 1) = true := by rw [k1]; rfl
  have b2 : (c.h.fn == 2) = false := by rw [k1]; rfl
  have b3 : (c.h.fn == 3) = false := by rw [k1]; rfl
  have HZ2 := hid (show z = (decide (nf = 0) && !decide (c.h.fl = 0)) by rw [HZ.out]; simp [k1])
  clear HZ
  have KK := hid k1
  clear k1
  go_enter Tryd.func72, Tryd.ntmps72
  by_cases kn : nf = 0
  case neg =>
   have bn : ((nf : Int) == 0) = false := beq_false_of_ne (by omega)
   have Kn := hid kn
   clear kn
   have e : z = false := by rw [HZ2.out]; simp [Kn.out]
   subst e
   go_wp2
   refine bodyPost_ret (v := .bool false) ?_ ?_ ?_
   ·
    simp [results, Tryd.results72, go_sem]
   ·
    rfl
   ·
    exact ⟨rfl, by have := HL.out; rwa [HW.out] at this⟩
  have bn : ((nf : Int) == 0) = true := by rw [kn]; rfl
  have Kn := hid kn
  clear kn
  by_cases kl : c.h.fl ≠ 0
  case neg =>
   have bl : (c.h.fl != 0) = false := by have := Decidable.not_not.1 kl; rw [this]; rfl
   have Kl := hid kl
   clear kl
   have e : z = false := by rw [HZ2.out]; simp [Decidable.not_not.1 Kl.out]
   subst e
   go_wp2
   refine bodyPost_ret (v := .bool false) ?_ ?_ ?_
   ·
    simp [results, Tryd.results72, go_sem]
   ·
    rfl
   ·
    exact ⟨rfl, by have := HL.out; rwa [HW.out] at this⟩
  have bl : (c.h.fl != 0) = true := bne_iff_ne.2 kl
  have Kl := hid kl
  clear kl
  have e : z = true := by rw [HZ2.out]; simp [Kn.out, Kl.out]
  subst e
  go_wp2
  refine bodyPost_ret (v := .bool true) ?_ ?_ ?_
  ·
   simp [results, Tryd.results72, go_sem]
  ·
   rfl
  ·
   exact ⟨rfl, by have := HL.out; rwa [HW.out] at this⟩
 by_cases k2 : c.h.fn = 2
 case pos =>
  clear k0
  clear k1
  have b0 : (c.h.fn == 0) = false := by rw [k2]; rfl
  have b1 : (c.h.fn == 1) = false := by rw [k2]; rfl
  have b2 : (c.h.fn == 2) = true := by rw [k2]; rfl
  have b3 : (c.h.fn == 3) = false := by rw [k2]; rfl
  have HZ2 := hid (show z = (decide (nf ≤ 9) && decide (c.h.fl = 0) && !za) by rw [HZ.out]; simp [k2])
  clear HZ
  have KK := hid k2
  clear k2
  go_enter Tryd.func72, Tryd.ntmps72
  by_cases kn : nf ≤ 9
  case neg =>
   have bn : (decide ((nf : Int) ≤ 9)) = false := decide_eq_false (by omega)
   have Kn := hid kn
   clear kn
   have e : z = false := by rw [HZ2.out]; simp [Kn.out]
   subst e
   go_wp2
   refine bodyPost_ret (v := .bool false) ?_ ?_ ?_
   ·
    simp [results, Tryd.results72, go_sem]
   ·
    rfl
   ·
    exact ⟨rfl, by have := HL.out; rwa [HW.out] at this⟩
  have bn : (decide ((nf : Int) ≤ 9)) = true := decide_eq_true (by omega)
  have Kn := hid kn
  clear kn
  by_cases kl : c.h.fl = 0
  case neg =>
   have bl : (c.h.fl == 0) = false := beq_false_of_ne kl
   have Kl := hid kl
   clear kl
   have e : z = false := by rw [HZ2.out]; simp [Kl.out]
   subst e
   go_wp2
   refine bodyPost_ret (v := .bool false) ?_ ?_ ?_
   ·
    simp [results, Tryd.results72, go_sem]
   ·
    rfl
   ·
    exact ⟨rfl, by have := HL.out; rwa [HW.out] at this⟩
  have bl : (c.h.fl == 0) = true := by rw [kl]; rfl
  have Kl := hid kl
  clear kl
  go_wp2_with fail
  rw [← HW.out]
  refine HALL.out.mono ?_
  rintro e w2 ⟨rfl, hb⟩
  have HB2 := hid hb
  clear hb
  cases za with
  | true =>
   have e : z = false := by rw [HZ2.out]; simp
   subst e
   go_wp2
   refine bodyPost_ret (v := .bool false) ?_ ?_ ?_
   ·
    simp [results, Tryd.results72, go_sem]
   ·
    rfl
   ·
    exact ⟨rfl, HB2.out⟩
  | false =>
   have e : z = true := by rw [HZ2.out]; simp [Kn.out, Kl.out]
   subst e
   go_wp2
   refine bodyPost_ret (v := .bool true) ?_ ?_ ?_
   ·
    simp [results, Tryd.results72, go_sem]
   ·
    rfl
   ·
    exact ⟨rfl, HB2.out⟩
 by_cases k3 : c.h.fn = 3
 case pos =>
  clear k0
  clear k1
  clear k2
  have b0 : (c.h.fn == 0) = false := by rw [k3]; rfl
  have b1 : (c.h.fn == 1) = false := by rw [k3]; rfl
  have b2 : (c.h.fn == 2) = false := by rw [k3]; rfl
  have b3 : (c.h.fn == 3) = true := by rw [k3]; rfl
  have HZ2 := hid (show z = (decide (nf = 0) && decide (c.h.fl = 0)) by rw [HZ.out]; simp [k3])
  clear HZ
  have KK := hid k3
  clear k3
  go_enter Tryd.func72, Tryd.ntmps72
  by_cases kn : nf = 0
  case neg =>
   have bn : ((nf : Int) == 0) = false := beq_false_of_ne (by omega)
   have Kn := hid kn
   clear kn
   have e : z = false := by rw [HZ2.out]; simp [Kn.out]
   subst e
   go_wp2
   refine bodyPost_ret (v := .bool false) ?_ ?_ ?_
   ·
    simp [results, Tryd.results72, go_sem]
   ·
    rfl
   ·
    exact ⟨rfl, by have := HL.out; rwa [HW.out] at this⟩
  have bn : ((nf : Int) == 0) = true := by rw [kn]; rfl
  have Kn := hid kn
  clear kn
  by_cases kl : c.h.fl = 0
  case neg =>
   have bl : (c.h.fl == 0) = false := beq_false_of_ne kl
   have Kl := hid kl
   clear kl
   have e : z = false := by rw [HZ2.out]; simp [Kl.out]
   subst e
   go_wp2
   refine bodyPost_ret (v := .bool false) ?_ ?_ ?_
   ·
    simp [results, Tryd.results72, go_sem]
   ·
    rfl
   ·
    exact ⟨rfl, by have := HL.out; rwa [HW.out] at this⟩
  have bl : (c.h.fl == 0) = true := by rw [kl]; rfl
  have Kl := hid kl
  clear kl
  have e : z = true := by rw [HZ2.out]; simp [Kn.out, Kl.out]
  subst e
  go_wp2
  refine bodyPost_ret (v := .bool true) ?_ ?_ ?_
  ·
   simp [results, Tryd.results72, go_sem]
  ·
   rfl
  ·
   exact ⟨rfl, by have := HL.out; rwa [HW.out] at this⟩
 have b0 : (c.h.fn == 0) = false := beq_false_of_ne k0
 have b1 : (c.h.fn == 1) = false := beq_false_of_ne k1
 have b2 : (c.h.fn == 2) = false := beq_false_of_ne k2
 have b3 : (c.h.fn == 3) = false := beq_false_of_ne k3
 have HZ2 := hid (show z = false by rw [HZ.out]; simp [k0, k1, k2, k3])
 clear HZ k0 k1 k2 k3
 go_enter Tryd.func72, Tryd.ntmps72
 have e : z = false := HZ2.out
 subst e
 go_wp2
 refine bodyPost_ret (v := .bool false) ?_ ?_ ?_
 ·
  simp [results, Tryd.results72, go_sem]
 ·
  rfl
 ·
  exact ⟨rfl, by have := HL.out; rwa [HW.out] at this⟩

theorem headC_parts (c : Co) : headC c = (!(c.h.flat.any noLab) && !noLab c.h.pl && !noLab c.h.fl && rpC c && rfC c) := by
 have hk : headC c = true ↔ (rng c.h.f0 ∧ rng c.h.f1 ∧ rng c.h.f2 ∧ rng c.h.f3 ∧ rng c.h.f4 ∧ rng c.h.f5 ∧ (0 ≤ c.h.pair ∧ c.h.pair ≤ 3) ∧ (0 ≤ c.h.fn ∧ c.h.fn ≤ 3) ∧ rng c.h.pl ∧ rng c.h.fl ∧
  (c.pairs.length : Int) = wantC c.h.pair ∧ (c.h.pair = 1 → c.h.pl ≠ 0) ∧ (c.h.pair = 0 ∨ c.h.pair = 2 → c.h.pl = 0) ∧ ¬ (2 ≤ c.h.pair ∧ allC c.pairs = true ∧ c.h.pl = 0) ∧
  (c.h.fn ≠ 2 → c.funs.length = 0) ∧ (c.h.fn = 2 → 1 ≤ c.funs.length ∧ c.funs.length ≤ 9 ∧ ¬ allC c.funs = true) ∧ (c.h.fn = 1 ↔ c.h.fl ≠ 0)) := by unfold headC; exact decide_eq_true_iff
 have h0 : c.funs.length = 0 → allC c.funs = true := fun h => by rw [List.length_eq_zero_iff.1 h]; rfl
 rw [Bool.eq_iff_iff, hk]
 unfold rpC rfC wantC Hd.flat
 simp only [List.any_cons, List.any_nil, Bool.or_false, noLab_rng, ← Bool.not_and, Bool.not_not, Bool.and_eq_true, decide_eq_true_eq]
 generalize c.pairs.length = n
 generalize c.funs.length = m at h0 ⊢
 generalize allC c.pairs = za
 generalize allC c.funs = zb at h0 ⊢
 generalize c.h.pair = p
 generalize c.h.fn = q
 generalize c.h.pl = a
 generalize c.h.fl = b
 constructor
 ·
  rintro ⟨r0, r1, r2, r3, r4, r5, hp, hq, ra, rb, h1, h2, h3, h4, h5, h6, h7⟩
  refine ⟨⟨⟨⟨⟨r0, r1, r2, r3, r4, r5⟩, ra⟩, rb⟩, ?_⟩, ?_⟩
  ·
   rcases (by omega : p = 0 ∨ p = 1 ∨ p = 2 ∨ p = 3) with rfl | rfl | rfl | rfl
   ·
    simp at h1 h3 ⊢; omega
   ·
    simp at h1 h2 ⊢; omega
   ·
    simp at h1 h3 h4 ⊢; cases za <;> simp_all <;> omega
   ·
    simp at h1 h4 ⊢; cases za <;> simp_all <;> omega
  ·
   rcases (by omega : q = 0 ∨ q = 1 ∨ q = 2 ∨ q = 3) with rfl | rfl | rfl | rfl
   ·
    simp at h5 h7 ⊢; omega
   ·
    simp at h5 h7 ⊢; omega
   ·
    simp at h6 h7 ⊢; cases zb <;> simp_all
   ·
    simp at h5 h7 ⊢; omega
 ·
  rintro ⟨⟨⟨⟨⟨r0, r1, r2, r3, r4, r5⟩, ra⟩, rb⟩, hP⟩, hF⟩
  have kp : p = 0 ∨ p = 1 ∨ p = 2 ∨ p = 3 := by
   by_cases e0 : p = 0; · omega
   by_cases e1 : p = 1; · omega
   by_cases e2 : p = 2; · omega
   by_cases e3 : p = 3; · omega
   rw [if_neg e0, if_neg e1, if_neg e2, if_neg e3] at hP; cases hP
  have kq : q = 0 ∨ q = 1 ∨ q = 2 ∨ q = 3 := by
   by_cases e0 : q = 0; · omega
   by_cases e1 : q = 1; · omega
   by_cases e2 : q = 2; · omega
   by_cases e3 : q = 3; · omega
   rw [if_neg e0, if_neg e1, if_neg e2, if_neg e3] at hF; cases hF
  have HP2 : (n : Int) = (if p = 2 then 2 else if p = 3 then 1 else 0) ∧ (p = 1 → a ≠ 0) ∧ (p = 0 ∨ p = 2 → a = 0) ∧ ¬ (2 ≤ p ∧ za = true ∧ a = 0) := by
   rcases kp with rfl | rfl | rfl | rfl
   ·
    simp at hP ⊢; omega
   ·
    simp at hP ⊢; omega
   ·
    simp at hP ⊢; cases za <;> simp_all
   ·
    simp at hP ⊢; cases za <;> simp_all
  have HF2 : (q ≠ 2 → m = 0) ∧ (q = 2 → 1 ≤ m ∧ m ≤ 9 ∧ ¬ zb = true) ∧ (q = 1 ↔ b ≠ 0) := by
   rcases kq with rfl | rfl | rfl | rfl
   ·
    simp at hF ⊢; omega
   ·
    simp at hF ⊢; omega
   ·
    simp at hF ⊢
    by_cases hm : m = 0
    ·
     rw [h0 hm] at hF; simp at hF
    ·
     cases zb <;> simp_all <;> omega
   ·
    simp at hF ⊢; omega
  exact ⟨r0, r1, r2, r3, r4, r5, by omega, by omega, ra, rb, HP2.1, HP2.2.1, HP2.2.2.1, HP2.2.2.2, HF2.1, HF2.2.1, HF2.2.2⟩

set_option maxRecDepth 100000 in
set_option maxHeartbeats 16000000 in
theorem rightfields_p (c : Co) (v : Value) (w : World) (hv : CoV w v c) : Calls Tryd.prog 42 #[v] w fun e w' => e = .returned (.bool (headC c)) ∧ Below w.heap.size w w' := by
 rw [headC_parts]
 have C1 := fun w1 (hb : Below w.heap.size w w1) => (rightpairs_p c v w1 (hv.below hb)).mono fun e w' h => (⟨h.1, h.2, hb.trans (h.2.mono hb.size)⟩ : e = .returned (.bool (rpC c)) ∧ Below w1.heap.size w1 w' ∧ Below w.heap.size w w')
 have C2 := fun w1 (hb : Below w.heap.size w w1) => (rightfuns_p c v w1 (hv.below hb)).mono fun e w' h => (⟨h.1, hb.trans (h.2.mono hb.size)⟩ : e = .returned (.bool (rfC c)) ∧ Below w.heap.size w w')
 obtain ⟨pa, pc, fa, fc, rfl, hp, hf⟩ := hv.form
 obtain ⟨np, hnp⟩ : ∃ n, n = c.pairs.length := ⟨_, rfl⟩
 obtain ⟨nf, hnf⟩ : ∃ n, n = c.funs.length := ⟨_, rfl⟩
 rw [← hnp] at hp ⊢
 rw [← hnf] at hf ⊢
 have bp : (np : Int) ≤ 9223372036854775807 := by have := hp.len; rw [← hnp] at this; unfold maxLen at this; omega
 have bf : (nf : Int) ≤ 9223372036854775807 := by have := hf.len; rw [← hnf] at this; unfold maxLen at this; omega
 obtain ⟨W, hW⟩ : ∃ W, W = w.alloc (.cells #[.int .i64 c.h.f0, .int .i64 c.h.f1, .int .i64 c.h.f2, .int .i64 c.h.f3, .int .i64 c.h.f4, .int .i64 c.h.f5, .int .i64 c.h.pair, .int .i64 c.h.pl, .slice pa np pc, .int .i64 c.h.fn, .int .i64 c.h.fl, .slice fa nf fc] 25) := ⟨_, rfl⟩
 have HX := hid (show CBox W w.heap.size 25 ⟨c.h, .slice pa np pc, .slice fa nf fc⟩ by rw [hW]; exact CBox.made _ _ ⟨c.h, .slice pa np pc, .slice fa nf fc⟩)
 have HL := hid (show Below w.heap.size w W by rw [hW]; exact bAl _ _)
 have HP := hid (CoSN.below hp HL.out)
 have HF := hid (CoSN.below hf HL.out)
 have HPN := hid hnp
 have HFN := hid hnf
 have HW := hid hW
 clear hp hf hnp hnf hW hv
 rw [← HPN.out, ← HFN.out] at C1 C2
 have HC1 := hid C1
 have HC2 := hid C2
 clear C1 C2
 have h6 : ∀ j, j < 6 → W.cell? ⟨w.heap.size, j, none⟩ = some (.int .i64 (c.h.flat.getD j 0)) := fun j hj => HX.out.flat hj
 have HI := hid (containsi_p c.h.flat w.heap.size 6 W rfl (by omega) h6)
 clear h6
 generalize c.h.flat.any noLab = z1 at HI ⊢
 generalize rpC c = z4 at HC1 ⊢
 generalize rfC c = z5 at HC2 ⊢
 obtain ⟨z2, hz2⟩ : ∃ z, z = noLab c.h.pl := ⟨_, rfl⟩
 obtain ⟨z3, hz3⟩ : ∃ z, z = noLab c.h.fl := ⟨_, rfl⟩
 rw [← hz2, ← hz3]
 have HZ2 := hid hz2
 have HZ3 := hid hz3
 clear hz2 hz3
 obtain ⟨x0, x1, x2, x3, x4, x5, x6, x7, x8, x9, x10, x11⟩ := HX.out.cs
 (try dsimp only at x0 x1 x2 x3 x4 x5 x6 x7 x8 x9 x10 x11)
 go_enter Tryd.func42, Tryd.ntmps42
 go_wp2_with fail
 rw [← HW.out]
 refine HI.out.mono ?_
 rintro e w2 ⟨rfl, rfl⟩
 cases z1 with
 | true =>
  go_wp2
  refine bodyPost_ret (v := .bool false) ?_ ?_ ?_
  ·
   simp [results, Tryd.results42, go_sem]
  ·
   rfl
  ·
   exact ⟨rfl, HL.out⟩
 | false =>
  go_wp2_with fail
  refine (nolab_p _ _).mono ?_
  rintro e w3 ⟨rfl, rfl⟩
  rw [← HZ2.out]
  cases z2 with
  | true =>
   go_wp2
   refine bodyPost_ret (v := .bool false) ?_ ?_ ?_
   ·
    simp [results, Tryd.results42, go_sem]
   ·
    rfl
   ·
    exact ⟨rfl, HL.out⟩
  | false =>
   go_wp2_with fail
   refine (nolab_p _ _).mono ?_
   rintro e w4 ⟨rfl, rfl⟩
   rw [← HZ3.out]
   cases z3 with
   | true =>
    go_wp2
    refine bodyPost_ret (v := .bool false) ?_ ?_ ?_
    ·
     simp [results, Tryd.results42, go_sem]
    ·
     rfl
    ·
     exact ⟨rfl, HL.out⟩
   | false =>
    go_wp2_with fail
    refine (HC1.out _ HL.out).mono ?_
    rintro e w5 ⟨rfl, hb, hb5⟩
    have HL5 := hid hb5
    have HX5 := hid (HX.out.keep hb)
    clear hb hb5 x0 x1 x2 x3 x4 x5 x6 x7 x8 x9 x10 x11
    obtain ⟨x0, x1, x2, x3, x4, x5, x6, x7, x8, x9, x10, x11⟩ := HX5.out.cs
    (try dsimp only at x0 x1 x2 x3 x4 x5 x6 x7 x8 x9 x10 x11)
    cases z4 with
    | false =>
     go_wp2
     refine bodyPost_ret (v := .bool false) ?_ ?_ ?_
     ·
      simp [results, Tryd.results42, go_sem]
     ·
      rfl
     ·
      exact ⟨rfl, HL5.out⟩
    | true =>
     go_wp2_with fail
     refine (HC2.out _ HL5.out).mono ?_
     rintro e w6 ⟨rfl, hb6⟩
     go_wp2
     refine bodyPost_ret (v := .bool z5) ?_ ?_ ?_
     ·
      simp [results, Tryd.results42, go_sem]
     ·
      rfl
     ·
      exact ⟨by simp, hb6⟩
end Go.Proofs.YtlalnkabfigodaaDoor
