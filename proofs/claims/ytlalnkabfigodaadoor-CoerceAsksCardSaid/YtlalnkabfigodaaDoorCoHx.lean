import Derived.Test.YtlalnkabfigodaaDoorCoHw
import Derived.Laws.EntriesVeiled
namespace Go.Proofs.YtlalnkabfigodaaDoor
open Go.Lib (hid)
open Go.RowKit

set_option maxRecDepth 100000 in
set_option maxHeartbeats 8000000 in
theorem holds_any {Nh : Nat → Prop} {Sh : Nat → World → Prop} {kh : Nat} {lbh : Array Value} {pr : Co → Nat → Bool} {st : Co → Nat → Nat → Nat} (F : FnH Nh Sh kh lbh pr st) (x : Co) (vx : Value) (w : World) (s : Nat) (hsz : szC x ≤ 900) (hN : ∀ b, Nh b → b < w.heap.size) (hsh : Sh s w) (hs : s ≤ 1000) (hx : CoVN Nh w vx x) :
  Calls Tryd.prog 40 #[vx, .func (.func kh) #[] lbh] w fun e w' => e = .returned (.bool (visB pr x 1)) ∧ Stay Nh w w' ∧ ∃ s', (visB pr x 1 = true → s' = visS st x 1 s) ∧ Sh s' w' := by
 have hmf : ∀ (fn : Fn) (first cap : Array Value) (w : World), (Instr.makeFunc fn first cap).run Tryd.prog w = .ok (.func fn first cap) w := fun _ _ _ _ => rfl
 have eg : ∀ (args : Array Value) (w : World), (callFunc 66 args).run Tryd.prog w = .ok (.enter 66 args) w := fun _ _ => rfl
 have hpos := szC_pos x
 have hcall : ∀ w1 gv, Below w.heap.size w w1 → w.heap.size + 1 + 1 < gv → VisAt Nh Sh kh lbh 2147483647 gv (w.heap.size + 1 + 1) (w.heap.size + 1) (0, s) w1 → w.heap.size + 1 + 1 < w1.heap.size →
   Calls Tryd.prog 66 #[vx, .int .i64 1, .pointer (some ⟨gv, 0, none⟩), .pointer (some ⟨w.heap.size + 1 + 1, 0, none⟩), .pointer (some ⟨w.heap.size + 1, 0, none⟩)] w1
   fun e w' => e = .returned (.bool (visB pr x 1)) ∧ Stay Nh w w' ∧ ∃ s', (visB pr x 1 = true → s' = visS st x 1 s) ∧ Sh s' w' := fun w1 gv hb hgv hv hlt => by
  have hd : ¬ Nh (w.heap.size + 1 + 1) := fun h => by have := hN _ h; omega
  refine (visit_any F (M := 2147483647) (gv := gv) (gw := w.heap.size + 1 + 1) (gh := w.heap.size + 1) (by omega) ⟨fun h => ?_, fun h => ?_, hd⟩ (szC x) x vx w1 1 0 s (Nat.le_refl _) (by omega) (by omega) (fun b h => ?_) hv ?_).mono ?_
  ·
   rcases h with h | h
   ·
    omega
   ·
    have := hN _ h; omega
  ·
   rcases h with h | h
   ·
    omega
   ·
    have := hN _ h; omega
  ·
   rcases h with h | h
   ·
    omega
   ·
    have := hN _ h; have := hb.size; omega
  ·
   exact hx.later hb fun b h => h.elim (fun e => .inr (by omega)) .inl
  ·
   rintro e w2 ⟨he, hst, t, ht, hv2⟩
   refine ⟨he, ⟨hst.os.trans hb.os, hst.tape.trans hb.tape, hst.output.trans hb.output, Nat.le_trans hb.size hst.size, fun k hk hn => ?_⟩, t.2, ht.2, hv2.sh⟩
   exact (hst.block k (Nat.lt_of_lt_of_le hk hb.size) fun h => h.elim (fun e => by omega) hn).trans (hb.block k hk)
 have hkeep := F.keep
 obtain ⟨pa, pc, fa, fc, rfl, hp, hf⟩ := hx.form
 obtain ⟨np, hnp⟩ : ∃ n, n = x.pairs.length := ⟨_, rfl⟩
 obtain ⟨nf, hnf⟩ : ∃ n, n = x.funs.length := ⟨_, rfl⟩
 generalize visB pr x 1 = z at hcall ⊢
 generalize visS st x 1 s = zs at hcall ⊢
 rw [← hnp, ← hnf] at hcall ⊢
 obtain ⟨W3, hW3⟩ : ∃ W, W = (((w.alloc (.cells #[.int .i64 x.h.f0, .int .i64 x.h.f1, .int .i64 x.h.f2, .int .i64 x.h.f3, .int .i64 x.h.f4, .int .i64 x.h.f5, .int .i64 x.h.pair, .int .i64 x.h.pl, .slice pa np pc, .int .i64 x.h.fn, .int .i64 x.h.fl, .slice fa nf fc] 25)).alloc (.cells #[.func (.func kh) #[] lbh] 42)).alloc (.cells #[.int .i64 2147483647] 58)) := ⟨_, rfl⟩
 have hs3 : W3.heap.size = w.heap.size + 1 + 1 + 1 := by rw [hW3]; simp
 have hb3 : Below w.heap.size w W3 := by rw [hW3]; exact ((bAl _ _).alloc (by simp) _).alloc (by simp; omega) _
 obtain ⟨W, hW⟩ : ∃ W, W = W3.alloc (.cells #[(.func (.func 66) #[] #[.pointer (some ⟨W3.heap.size, 0, none⟩), .pointer (some ⟨w.heap.size + 1 + 1, 0, none⟩), .pointer (some ⟨w.heap.size + 1, 0, none⟩)])] 42) := ⟨_, rfl⟩
 have hb3W : Below W3.heap.size W3 W := by rw [hW]; exact bAl _ _
 have hbw : Below w.heap.size w W := hb3.trans (hb3W.mono hb3.size)
 have hx3 : CBox W3 w.heap.size 25 ⟨x.h, .slice pa np pc, .slice fa nf fc⟩ := by
  rw [hW3]; exact ((CBox.made w 25 ⟨x.h, .slice pa np pc, .slice fa nf fc⟩).keep (bAl _ _)).keep (bAl _ _)
 have hva : VisAt Nh Sh kh lbh 2147483647 W3.heap.size (w.heap.size + 1 + 1) (w.heap.size + 1) (0, s) W := by
  refine ⟨?_, ?_, ?_, hkeep (fun _ => False) _ _ _ hsh (.of hbw) (fun _ _ h => h), by omega⟩
  ·
   refine WalkC.keep ?_ hb3W
   rw [hW3]
   have := VarIs.made ((w.alloc (.cells #[.int .i64 x.h.f0, .int .i64 x.h.f1, .int .i64 x.h.f2, .int .i64 x.h.f3, .int .i64 x.h.f4, .int .i64 x.h.f5, .int .i64 x.h.pair, .int .i64 x.h.pl, .slice pa np pc, .int .i64 x.h.fn, .int .i64 x.h.fl, .slice fa nf fc] 25)).alloc (.cells #[.func (.func kh) #[] lbh] 42)) 58 (.int .i64 2147483647)
   simp only [alloc_hs7] at this; exact this
  ·
   rw [hW]; exact VarIs.made _ _ _
  ·
   refine VarIs.keep ?_ hb3W
   rw [hW3]
   refine VarIs.keep (w := ((w.alloc (.cells #[.int .i64 x.h.f0, .int .i64 x.h.f1, .int .i64 x.h.f2, .int .i64 x.h.f3, .int .i64 x.h.f4, .int .i64 x.h.f5, .int .i64 x.h.pair, .int .i64 x.h.pl, .slice pa np pc, .int .i64 x.h.fn, .int .i64 x.h.fl, .slice fa nf fc] 25)).alloc (.cells #[.func (.func kh) #[] lbh] 42))) ?_ (bAl _ _)
   have := VarIs.made (w.alloc (.cells #[.int .i64 x.h.f0, .int .i64 x.h.f1, .int .i64 x.h.f2, .int .i64 x.h.f3, .int .i64 x.h.f4, .int .i64 x.h.f5, .int .i64 x.h.pair, .int .i64 x.h.pl, .slice pa np pc, .int .i64 x.h.fn, .int .i64 x.h.fl, .slice fa nf fc] 25)) 42 (.func (.func kh) #[] lbh)
   simp only [alloc_hs7] at this; exact this
 have hq : w.heap.size < W3.heap.size := hx3.lt
 have HC := hid (hcall W W3.heap.size hbw (by omega) hva (by have := hb3W.size; omega))
 have HX3 := hid hx3
 have HW3 := hid hW3
 have HW := hid hW
 clear hcall hW hbw hva hkeep hb3W hb3 hs3 hW3 hx3 hx hsh hN hs hsz hpos hp hf hnp hnf F
 go_enter Tryd.func40, Tryd.ntmps40
 go_upto_region 2 with fail
 rw [← HW3.out]
 obtain ⟨x0, x1, x2, x3, x4, x5, x6, x7, x8, x9, x10, x11⟩ := HX3.out.cs
 (try dsimp only at x0 x1 x2 x3 x4 x5 x6 x7 x8 x9 x10 x11)
 go_wp2_with fail
 rw [← HW.out]
 refine HC.out.mono ?_
 rintro e w2 ⟨rfl, hs2, h2⟩
 have H2 := hid h2
 clear h2
 go_wp2
 go_ret
 exact ⟨rfl, hs2, H2.out⟩

def prR (x : Co) (lv : Nat) : Bool := decide (lv ≤ 25) && headC x
theorem visBs_all (pr : Co → Nat → Bool) (lv : Nat) : ∀ l : List Co, visBs pr l lv = l.all fun c => visB pr c lv
 | [] => rfl
 | d :: r => by rw [visBs, visBs_all pr lv r, List.all_cons]
theorem vis_right (x : Co) : ∀ lv, visB prR x lv = deepC (26 - lv) x := by
 induction x using co_ind with
 | h c h1 h2 =>
  intro lv
  rw [visB_eq, visBs_all, visBs_all]
  by_cases hl : lv ≤ 25
  ·
   have e : 26 - lv = (26 - (lv + 1)) + 1 := by omega
   rw [e, deepC_succ, prR, decide_eq_true hl, Bool.true_and]
   have a1 : (c.pairs.all fun c => visB prR c (lv + 1)) = c.pairs.all (deepC (26 - (lv + 1))) := by
    rw [Bool.eq_iff_iff, List.all_eq_true, List.all_eq_true]
    exact ⟨fun h x hx => by rw [← h1 x hx]; exact h x hx, fun h x hx => by rw [h1 x hx]; exact h x hx⟩
   have a2 : (c.funs.all fun c => visB prR c (lv + 1)) = c.funs.all (deepC (26 - (lv + 1))) := by
    rw [Bool.eq_iff_iff, List.all_eq_true, List.all_eq_true]
    exact ⟨fun h x hx => by rw [← h2 x hx]; exact h x hx, fun h x hx => by rw [h2 x hx]; exact h x hx⟩
   rw [a1, a2]
  ·
   rw [show 26 - lv = 0 by omega, prR, decide_eq_false hl]; rfl
theorem visSs_max (lv : Nat) (h1 : 1 ≤ lv) : ∀ (l : List Co) (s : Nat), (∀ x ∈ l, ∀ s, visS (fun _ lv s => max s lv) x lv s = max s (lv + htC x - 1)) → visSs (fun _ lv s => max s lv) l lv s = if l = [] then s else max s (lv + htCs l - 1)
 | [], s, _ => rfl
 | d :: r, s, h => by
  have e : (if d :: r = [] then s else max s (lv + htCs (d :: r) - 1)) = max s (lv + htCs (d :: r) - 1) := if_neg (by simp)
  rw [e, visSs, visSs_max lv h1 r _ fun x hx => h x (List.mem_cons_of_mem _ hx), h d (List.mem_cons_self ..), htCs]
  by_cases hr : r = []
  ·
   rw [if_pos hr, hr, htCs]; omega
  ·
   rw [if_neg hr]; omega
theorem vis_max (x : Co) : ∀ lv s, 1 ≤ lv → visS (fun _ lv s => max s lv) x lv s = max s (lv + htC x - 1) := by
 induction x using co_ind with
 | h c h1 h2 =>
  intro lv s hl
  rw [visS_eq, visSs_max _ (by omega) _ _ fun x hx s => h2 x hx _ s (by omega), visSs_max _ (by omega) _ _ fun x hx s => h1 x hx _ s (by omega), htC_eq]
  by_cases e1 : c.pairs = []
  ·
   rw [if_pos e1, e1, htCs]
   by_cases e2 : c.funs = []
   ·
    rw [if_pos e2, e2, htCs]; omega
   ·
    rw [if_neg e2]; omega
  ·
   rw [if_neg e1]
   by_cases e2 : c.funs = []
   ·
    rw [if_pos e2, e2, htCs]; omega
   ·
    rw [if_neg e2]; omega
theorem visSs_sum (lv : Nat) : ∀ (l : List Co) (s : Nat), (∀ x ∈ l, ∀ s, visS (fun _ _ s => s + 1) x lv s = s + szC x) → visSs (fun _ _ s => s + 1) l lv s = s + szCs l
 | [], s, _ => rfl
 | d :: r, s, h => by
  rw [visSs, visSs_sum lv r _ fun x hx => h x (List.mem_cons_of_mem _ hx), h d (List.mem_cons_self ..), szCs]; omega
theorem vis_sum (x : Co) : ∀ lv s, visS (fun _ _ s => s + 1) x lv s = s + szC x := by
 induction x using co_ind with
 | h c h1 h2 =>
  intro lv s
  rw [visS_eq, visSs_sum _ _ _ fun x hx s => h2 x hx _ s, visSs_sum _ _ _ fun x hx s => h1 x hx _ s, szC_eq]; omega
theorem visBs_true (lv : Nat) : ∀ (l : List Co), (∀ x ∈ l, visB (fun _ _ => true) x lv = true) → visBs (fun _ _ => true) l lv = true
 | [], _ => rfl
 | d :: r, h => by rw [visBs, h d (List.mem_cons_self ..), visBs_true lv r fun x hx => h x (List.mem_cons_of_mem _ hx)]; rfl
theorem vis_true (x : Co) : ∀ lv, visB (fun _ _ => true) x lv = true := by
 induction x using co_ind with
 | h c h1 h2 =>
  intro lv
  rw [visB_eq, visBs_true _ _ fun x hx => h1 x hx _, visBs_true _ _ fun x hx => h2 x hx _]; rfl

set_option maxRecDepth 100000 in
set_option maxHeartbeats 8000000 in
theorem right1_p (x : Co) (vx : Value) (w : World) (lv : Nat) (hlv : lv ≤ 1000) (hx : CoV w vx x) : Calls Tryd.prog 41 #[vx, .int .i64 lv] w fun e w' => e = .returned (.bool (prR x lv)) ∧ Below w.heap.size w w' := by
 have C := fun w1 (hb : Below w.heap.size w w1) => (rightfields_p x vx w1 (hx.below hb)).mono fun e w' h => (⟨h.1, hb.trans (h.2.mono hb.size)⟩ : e = .returned (.bool (headC x)) ∧ Below w.heap.size w w')
 have hz : prR x lv = (decide (lv ≤ 25) && headC x) := rfl
 obtain ⟨pa, pc, fa, fc, rfl, hp, hf⟩ := hx.form
 obtain ⟨np, hnp⟩ : ∃ n, n = x.pairs.length := ⟨_, rfl⟩
 obtain ⟨nf, hnf⟩ : ∃ n, n = x.funs.length := ⟨_, rfl⟩
 rw [← hnp, ← hnf] at C ⊢
 generalize prR x lv = z at hz ⊢
 generalize headC x = zh at hz C
 have HC := hid C
 have HZ := hid hz
 clear C hz hp hf hnp hnf hx
 by_cases h25 : lv ≤ 25
 case neg =>
  have h1 : decide ((lv : Int) ≤ 25) = false := decide_eq_false (by omega)
  have HZ2 := hid (show z = false by rw [HZ.out, decide_eq_false h25]; rfl)
  clear h25 hlv
  go_enter Tryd.func41, Tryd.ntmps41
  go_wp2
  go_ret
  exact ⟨ret_bool HZ2.out.symm, bAl _ _⟩
 have h1 : decide ((lv : Int) ≤ 25) = true := decide_eq_true (by omega)
 have HZ2 := hid (show z = zh by rw [HZ.out, decide_eq_true h25, Bool.true_and])
 clear h25 hlv
 go_enter Tryd.func41, Tryd.ntmps41
 go_wp2_with fail
 refine (HC.out _ (bAl _ _)).mono ?_
 rintro e w2 ⟨rfl, hb⟩
 go_wp2
 go_ret
 exact ⟨ret_bool HZ2.out.symm, hb⟩

theorem fnH_right : FnH (fun _ => False) (fun _ _ => True) 41 #[] prR (fun _ _ s => s) := by
 refine ⟨fun _ _ _ _ _ _ _ => trivial, fun _ _ => rfl, fun _ _ _ => by omega, fun w vx x lv s _ hlv _ hx => ?_⟩
 refine (right1_p x vx w lv hlv hx).mono ?_
 rintro e w2 ⟨he, hb⟩
 exact ⟨he, .of hb, trivial⟩

set_option maxRecDepth 100000 in
set_option maxHeartbeats 8000000 in
theorem height1_p (x : Co) (vx : Value) (w : World) (lv s gm : Nat) (hx : CoV w vx x) (hv : VarIs w gm 3 (.int .i64 s)) : Calls Tryd.prog 49 #[vx, .int .i64 lv, .pointer (some ⟨gm, 0, none⟩)] w fun e w' => e = .returned (.bool true) ∧ Stay (· = gm) w w' ∧ VarIs w' gm 3 (.int .i64 ((max s lv : Nat) : Int)) := by
 obtain ⟨pa, pc, fa, fc, rfl, hp, hf⟩ := hx.form
 obtain ⟨np, hnp⟩ : ∃ n, n = x.pairs.length := ⟨_, rfl⟩
 obtain ⟨nf, hnf⟩ : ∃ n, n = x.funs.length := ⟨_, rfl⟩
 rw [← hnp, ← hnf]
 obtain ⟨W, hW⟩ : ∃ W, W = w.alloc (.cells #[.int .i64 x.h.f0, .int .i64 x.h.f1, .int .i64 x.h.f2, .int .i64 x.h.f3, .int .i64 x.h.f4, .int .i64 x.h.f5, .int .i64 x.h.pair, .int .i64 x.h.pl, .slice pa np pc, .int .i64 x.h.fn, .int .i64 x.h.fl, .slice fa nf fc] 25) := ⟨_, rfl⟩
 have hb : Below w.heap.size w W := by rw [hW]; exact bAl _ _
 have hv2 := hv.keep hb
 have h1 := hv2.c
 have h2 := hv2.fr 0
 rw [hW] at h1 h2
 have HV := hid hv2
 have HB := hid hb
 have HW := hid hW
 clear hv hv2 hb hW hp hf hnp hnf hx
 by_cases hle : (s : Int) < lv
 ·
  have hm : max s lv = lv := by omega
  rw [hm]
  go_enter Tryd.func49, Tryd.ntmps49
  go_wp2
  go_ret
  refine ⟨rfl, ?_, ?_⟩
  ·
   rw [← HW.out]; exact Stay.set (N := (· = gm)) (.of HB.out) rfl _
  ·
   rw [← HW.out]; exact VarIs.set HV.out (.int .i64 (lv : Int))
 ·
  have hm : max s lv = s := by omega
  rw [hm]
  go_enter Tryd.func49, Tryd.ntmps49
  go_wp2
  go_ret
  refine ⟨rfl, ?_, ?_⟩
  ·
   rw [← HW.out]; exact Stay.set (N := (· = gm)) (.of HB.out) rfl _
  ·
   rw [← HW.out]; exact VarIs.set HV.out (.int .i64 (s : Int))

theorem fnH_height (gm : Nat) : FnH (· = gm) (fun s w => VarIs w gm 3 (.int .i64 s)) 49 #[.pointer (some ⟨gm, 0, none⟩)] (fun _ _ => true) (fun _ lv s => max s lv) := by
 refine ⟨fun N s w w' h hs hn => h.stay hs (hn gm rfl), fun _ _ => rfl, fun _ _ _ => by omega, fun w vx x lv s h hlv _ hx => ?_⟩
 exact height1_p x vx w lv s gm hx h

set_option maxRecDepth 100000 in
set_option maxHeartbeats 8000000 in
theorem size1_p (x : Co) (vx : Value) (w : World) (lv s gm : Nat) (hs : s ≤ 100000) (hx : CoV w vx x) (hv : VarIs w gm 3 (.int .i64 s)) : Calls Tryd.prog 50 #[vx, .int .i64 lv, .pointer (some ⟨gm, 0, none⟩)] w fun e w' => e = .returned (.bool true) ∧ Stay (· = gm) w w' ∧ VarIs w' gm 3 (.int .i64 ((s + 1 : Nat) : Int)) := by
 obtain ⟨pa, pc, fa, fc, rfl, hp, hf⟩ := hx.form
 obtain ⟨np, hnp⟩ : ∃ n, n = x.pairs.length := ⟨_, rfl⟩
 obtain ⟨nf, hnf⟩ : ∃ n, n = x.funs.length := ⟨_, rfl⟩
 rw [← hnp, ← hnf]
 obtain ⟨W, hW⟩ : ∃ W, W = w.alloc (.cells #[.int .i64 x.h.f0, .int .i64 x.h.f1, .int .i64 x.h.f2, .int .i64 x.h.f3, .int .i64 x.h.f4, .int .i64 x.h.f5, .int .i64 x.h.pair, .int .i64 x.h.pl, .slice pa np pc, .int .i64 x.h.fn, .int .i64 x.h.fl, .slice fa nf fc] 25) := ⟨_, rfl⟩
 have hb : Below w.heap.size w W := by rw [hW]; exact bAl _ _
 have hv2 := hv.keep hb
 have h1 := hv2.c
 have h2 := hv2.fr 0
 rw [hW] at h1 h2
 have h3 : (s : Int) ≤ 100000 := by omega
 have HV := hid hv2
 have HB := hid hb
 have HW := hid hW
 clear hv hv2 hb hW hp hf hnp hnf hx hs
 go_enter Tryd.func50, Tryd.ntmps50
 go_wp2
 go_ret
 refine ⟨rfl, ?_, ?_⟩
 ·
  rw [← HW.out]; exact Stay.set (N := (· = gm)) (.of HB.out) rfl _
 ·
  rw [← HW.out]; have := VarIs.set HV.out (.int .i64 ((s : Int) + 1)); exact this

theorem fnH_size (gm : Nat) : FnH (· = gm) (fun s w => VarIs w gm 3 (.int .i64 s)) 50 #[.pointer (some ⟨gm, 0, none⟩)] (fun _ _ => true) (fun _ _ s => s + 1) := by
 refine ⟨fun N s w w' h hs hn => h.stay hs (hn gm rfl), fun _ _ => rfl, fun _ _ _ => by omega, fun w vx x lv s h hlv hs hx => ?_⟩
 exact size1_p x vx w lv s gm hs hx h

set_option maxRecDepth 100000 in
set_option maxHeartbeats 8000000 in
theorem right_p (x : Co) (vx : Value) (w : World) (hsz : szC x ≤ 900) (hx : CoV w vx x) : Calls Tryd.prog 10 #[vx] w fun e w' => e = .returned (.bool (rightC x)) ∧ Below w.heap.size w w' := by
 have C := fun w1 (hb : Below w.heap.size w w1) => (holds_any fnH_right x vx w1 0 hsz (fun _ h => h.elim) trivial (by omega) (hx.below hb)).mono fun e w' h => (⟨h.1, hb.trans (h.2.1.none.mono hb.size)⟩ : e = .returned (.bool (visB prR x 1)) ∧ Below w.heap.size w w')
 rw [vis_right] at C
 have hr : rightC x = deepC (26 - 1) x := rfl
 rw [← hr] at C
 generalize rightC x = z at C ⊢
 obtain ⟨pa, pc, fa, fc, rfl, hp, hf⟩ := hx.form
 obtain ⟨np, hnp⟩ : ∃ n, n = x.pairs.length := ⟨_, rfl⟩
 obtain ⟨nf, hnf⟩ : ∃ n, n = x.funs.length := ⟨_, rfl⟩
 rw [← hnp, ← hnf] at C ⊢
 have HC := hid C
 clear C hr hsz hp hf hnp hnf hx
 go_enter Tryd.func10, Tryd.ntmps10
 go_wp2_with fail
 refine (HC.out _ (bAl _ _)).mono ?_
 rintro e w2 ⟨rfl, hb⟩
 go_wp2
 go_ret
 exact ⟨rfl, hb⟩

set_option maxRecDepth 100000 in
set_option maxHeartbeats 8000000 in
theorem height_p (x : Co) (vx : Value) (w : World) (hsz : szC x ≤ 900) (hx : CoV w vx x) : Calls Tryd.prog 16 #[vx] w fun e w' => e = .returned (.int .i64 (htC x : Nat)) ∧ Below w.heap.size w w' := by
 have hmf : ∀ (fn : Fn) (first cap : Array Value) (w : World), (Instr.makeFunc fn first cap).run Tryd.prog w = .ok (.func fn first cap) w := fun _ _ _ _ => rfl
 have hcall : ∀ w1, Below w.heap.size w w1 → VarIs w1 (w.heap.size + 1) 3 (.int .i64 0) → Calls Tryd.prog 40 #[vx, .func (.func 49) #[] #[.pointer (some ⟨w.heap.size + 1, 0, none⟩)]] w1
   fun e w' => e = .returned (.bool true) ∧ Below w.heap.size w w' ∧ w'.cell? ⟨w.heap.size + 1, 0, none⟩ = some (.int .i64 (htC x : Nat)) := fun w1 hb hv => by
  refine (holds_any (fnH_height (w.heap.size + 1)) x vx w1 0 hsz (fun b h => by rw [h]; exact hv.lt) hv (by omega) (hx.later hb fun b h => .inr (by omega))).mono ?_
  rintro e w2 ⟨he, hst, s', hs', hv2⟩
  rw [vis_true] at he hs'
  have hs2 := hs' (by trivial)
  rw [vis_max _ _ _ (by omega)] at hs2
  have hs3 : s' = htC x := by rw [hs2]; omega
  rw [hs3] at hv2
  exact ⟨he, (Stay.trans (N := (· = w.heap.size + 1)) (.of hb) hst).below (Nat.le_refl _) (fun k hk => by omega), hv2.c⟩
 generalize (htC x : Nat) = r at hcall ⊢
 obtain ⟨pa, pc, fa, fc, rfl, hp, hf⟩ := hx.form
 obtain ⟨np, hnp⟩ : ∃ n, n = x.pairs.length := ⟨_, rfl⟩
 obtain ⟨nf, hnf⟩ : ∃ n, n = x.funs.length := ⟨_, rfl⟩
 rw [← hnp, ← hnf] at hcall ⊢
 obtain ⟨W, hW⟩ : ∃ W, W = (w.alloc (.cells #[.int .i64 x.h.f0, .int .i64 x.h.f1, .int .i64 x.h.f2, .int .i64 x.h.f3, .int .i64 x.h.f4, .int .i64 x.h.f5, .int .i64 x.h.pair, .int .i64 x.h.pl, .slice pa np pc, .int .i64 x.h.fn, .int .i64 x.h.fl, .slice fa nf fc] 25)).alloc (.cells #[.int .i64 0] 3) := ⟨_, rfl⟩
 have HC := hid (hcall W (by rw [hW]; exact (bAl _ _).alloc (by simp) _) (by rw [hW]; have := VarIs.made (w.alloc (.cells #[.int .i64 x.h.f0, .int .i64 x.h.f1, .int .i64 x.h.f2, .int .i64 x.h.f3, .int .i64 x.h.f4, .int .i64 x.h.f5, .int .i64 x.h.pair, .int .i64 x.h.pl, .slice pa np pc, .int .i64 x.h.fn, .int .i64 x.h.fl, .slice fa nf fc] 25)) 3 (.int .i64 0); simp only [alloc_hs7] at this; exact this))
 have HW := hid hW
 clear hcall hW hsz hx hp hf hnp hnf
 go_enter Tryd.func16, Tryd.ntmps16
 go_wp2_with fail
 rw [← HW.out]
 refine HC.out.mono ?_
 rintro e w2 ⟨rfl, hb, hc⟩
 go_wp2
 go_ret
 exact ⟨rfl, hb⟩

set_option maxRecDepth 100000 in
set_option maxHeartbeats 8000000 in
theorem size_p (x : Co) (vx : Value) (w : World) (hsz : szC x ≤ 900) (hx : CoV w vx x) : Calls Tryd.prog 18 #[vx] w fun e w' => e = .returned (.int .i64 (szC x : Nat)) ∧ Below w.heap.size w w' := by
 have hmf : ∀ (fn : Fn) (first cap : Array Value) (w : World), (Instr.makeFunc fn first cap).run Tryd.prog w = .ok (.func fn first cap) w := fun _ _ _ _ => rfl
 have hcall : ∀ w1, Below w.heap.size w w1 → VarIs w1 (w.heap.size + 1) 3 (.int .i64 0) → Calls Tryd.prog 40 #[vx, .func (.func 50) #[] #[.pointer (some ⟨w.heap.size + 1, 0, none⟩)]] w1
   fun e w' => e = .returned (.bool true) ∧ Below w.heap.size w w' ∧ w'.cell? ⟨w.heap.size + 1, 0, none⟩ = some (.int .i64 (szC x : Nat)) := fun w1 hb hv => by
  refine (holds_any (fnH_size (w.heap.size + 1)) x vx w1 0 hsz (fun b h => by rw [h]; exact hv.lt) hv (by omega) (hx.later hb fun b h => .inr (by omega))).mono ?_
  rintro e w2 ⟨he, hst, s', hs', hv2⟩
  rw [vis_true] at he hs'
  have hs2 := hs' (by trivial)
  rw [vis_sum] at hs2
  have hs3 : s' = szC x := by rw [hs2]; omega
  rw [hs3] at hv2
  exact ⟨he, (Stay.trans (N := (· = w.heap.size + 1)) (.of hb) hst).below (Nat.le_refl _) (fun k hk => by omega), hv2.c⟩
 generalize (szC x : Nat) = r at hcall ⊢
 obtain ⟨pa, pc, fa, fc, rfl, hp, hf⟩ := hx.form
 obtain ⟨np, hnp⟩ : ∃ n, n = x.pairs.length := ⟨_, rfl⟩
 obtain ⟨nf, hnf⟩ : ∃ n, n = x.funs.length := ⟨_, rfl⟩
 rw [← hnp, ← hnf] at hcall ⊢
 obtain ⟨W, hW⟩ : ∃ W, W = (w.alloc (.cells #[.int .i64 x.h.f0, .int .i64 x.h.f1, .int .i64 x.h.f2, .int .i64 x.h.f3, .int .i64 x.h.f4, .int .i64 x.h.f5, .int .i64 x.h.pair, .int .i64 x.h.pl, .slice pa np pc, .int .i64 x.h.fn, .int .i64 x.h.fl, .slice fa nf fc] 25)).alloc (.cells #[.int .i64 0] 3) := ⟨_, rfl⟩
 have HC := hid (hcall W (by rw [hW]; exact (bAl _ _).alloc (by simp) _) (by rw [hW]; have := VarIs.made (w.alloc (.cells #[.int .i64 x.h.f0, .int .i64 x.h.f1, .int .i64 x.h.f2, .int .i64 x.h.f3, .int .i64 x.h.f4, .int .i64 x.h.f5, .int .i64 x.h.pair, .int .i64 x.h.pl, .slice pa np pc, .int .i64 x.h.fn, .int .i64 x.h.fl, .slice fa nf fc] 25)) 3 (.int .i64 0); simp only [alloc_hs7] at this; exact this))
 have HW := hid hW
 clear hcall hW hsz hx hp hf hnp hnf
 go_enter Tryd.func18, Tryd.ntmps18
 go_wp2_with fail
 rw [← HW.out]
 refine HC.out.mono ?_
 rintro e w2 ⟨rfl, hb, hc⟩
 go_wp2
 go_ret
 exact ⟨rfl, hb⟩
end Go.Proofs.YtlalnkabfigodaaDoor
