import Derived.Test.YtgjkobkcmgliaaaTyEq
import Derived.Test.YtgjkobkcmgliaaaTyTw
import Derived.Test.YtgjkobkcmgliaaaTyM
import Derived.Laws.Bits128
-- joined
namespace Go.Proofs.Ytgjkobkcmgliaaa
open Go.RowKit

/-- a type, as a value -/
abbrev tyv (a : Bool) (f p : Int) (pa : Option Addr) (np pc : Nat) (g : Int) (fa : Option Addr) (nf fc : Nat) : Value := .agg #[.bool a, .int .i64 f, .int .i64 p, .slice pa np pc, .int .i64 g, .slice fa nf fc]
def hasPr (p : Int) (np : Nat) : Bool := (p == 1 && np == 2) || (p == 2 && np == 1)
def hasFr (g : Int) (nf : Nat) : Bool := (g == 1 && decide (0 < nf)) || (g == 2 && nf == 0)

set_option maxRecDepth 100000 in
set_option maxHeartbeats 4000000 in
theorem hasP_raw (a : Bool) (f p : Int) (pa : Option Addr) (np pc : Nat) (g : Int) (fa : Option Addr) (nf fc : Nat) (w : World) :
    Calls Try.prog 72 #[.agg #[.bool a, .int .i64 f, .int .i64 p, .slice pa np pc, .int .i64 g, .slice fa nf fc]] w fun e w' => e = .returned (.bool (hasPr p np)) ∧ Below w.heap.size w w' := by
  obtain ⟨z, hz⟩ : ∃ z, z = hasPr p np := ⟨_, rfl⟩
  rw [← hz]
  have dn : ∀ k : Nat, ((np : Int) == (k : Int)) = (np == k) := fun k => by
    by_cases h : np = k
    · subst h; simp
    · rw [beq_false_of_ne h]; exact beq_false_of_ne (by omega)
  have d1 := dn 1
  have d2 := dn 2
  unfold hasPr at hz
  have t1 : ∃ x, (p == 1) = x := ⟨_, rfl⟩
  have t2 : ∃ x, (p == 2) = x := ⟨_, rfl⟩
  have t3 : ∃ x, (np == 1) = x := ⟨_, rfl⟩
  have t4 : ∃ x, (np == 2) = x := ⟨_, rfl⟩
  obtain ⟨x1, t1⟩ := t1
  obtain ⟨x2, t2⟩ := t2
  obtain ⟨x3, t3⟩ := t3
  obtain ⟨x4, t4⟩ := t4
  rw [t3] at d1
  rw [t4] at d2
  rw [t1, t2, t3, t4] at hz
  have HZ := Lib.hid hz
  clear hz dn
  simp only [Int.cast_ofNat_Int] at d1 d2
  clear t3 t4
  cases x1 <;> cases x2 <;> cases x3 <;> cases x4
  all_goals
    go_enter Try.func72, Try.ntmps72
    go_wp2
    go_ret
    exact ⟨ret_bool (by rw [HZ.out]; rfl), (Below.refl _ _).alloc (Nat.le_refl _) _⟩

set_option maxRecDepth 100000 in
set_option maxHeartbeats 4000000 in
theorem hasF_raw (a : Bool) (f p : Int) (pa : Option Addr) (np pc : Nat) (g : Int) (fa : Option Addr) (nf fc : Nat) (w : World) :
    Calls Try.prog 73 #[.agg #[.bool a, .int .i64 f, .int .i64 p, .slice pa np pc, .int .i64 g, .slice fa nf fc]] w fun e w' => e = .returned (.bool (hasFr g nf)) ∧ Below w.heap.size w w' := by
  obtain ⟨z, hz⟩ : ∃ z, z = hasFr g nf := ⟨_, rfl⟩
  rw [← hz]
  unfold hasFr at hz
  have t1 : ∃ x, (g == 1) = x := ⟨_, rfl⟩
  have t2 : ∃ x, (g == 2) = x := ⟨_, rfl⟩
  obtain ⟨x1, t1⟩ := t1
  obtain ⟨x2, t2⟩ := t2
  rw [t1, t2] at hz
  by_cases h0 : nf = 0
  · subst h0
    have HZ := Lib.hid hz
    clear hz
    cases x1 <;> cases x2
    all_goals
      go_enter Try.func73, Try.ntmps73
      go_wp2
      go_ret
      exact ⟨ret_bool (by rw [HZ.out]; rfl), (Below.refl _ _).alloc (Nat.le_refl _) _⟩
  · have hp : (0 : Int) < nf := by omega
    have hq : ((nf : Int) == 0) = false := beq_false_of_ne (by omega)
    have hr : (nf == 0) = false := beq_false_of_ne h0
    have hs : decide (0 < nf) = true := decide_eq_true (by omega)
    rw [hr, hs] at hz
    have HZ := Lib.hid hz
    clear hz hr hs h0
    cases x1 <;> cases x2
    all_goals
      go_enter Try.func73, Try.ntmps73
      go_wp2
      go_ret
      exact ⟨ret_bool (by rw [HZ.out]; rfl), (Below.refl _ _).alloc (Nat.le_refl _) _⟩

set_option maxRecDepth 100000 in
set_option maxHeartbeats 4000000 in
theorem lists_raw (a : Bool) (f p : Int) (pa : Option Addr) (np pc : Nat) (g : Int) (fa : Option Addr) (nf fc : Nat) (a' : Bool) (f' p' : Int) (pa' : Option Addr) (np' pc' : Nat) (g' : Int) (fa' : Option Addr) (nf' fc' : Nat) (w : World) :
    Calls Try.prog 97 #[.agg #[.bool a, .int .i64 f, .int .i64 p, .slice pa np pc, .int .i64 g, .slice fa nf fc], .agg #[.bool a', .int .i64 f', .int .i64 p', .slice pa' np' pc', .int .i64 g', .slice fa' nf' fc']] w
      fun e w' => e = .returned (.bool (p == 2 && p' == 2)) ∧ Below w.heap.size w w' := by
  obtain ⟨z, hz⟩ : ∃ z, z = (p == 2 && p' == 2) := ⟨_, rfl⟩
  rw [← hz]
  have t1 : ∃ x, (p == 2) = x := ⟨_, rfl⟩
  have t2 : ∃ x, (p' == 2) = x := ⟨_, rfl⟩
  obtain ⟨x1, t1⟩ := t1
  obtain ⟨x2, t2⟩ := t2
  rw [t1, t2] at hz
  have HZ := Lib.hid hz
  clear hz
  cases x1 <;> cases x2
  all_goals
    go_enter Try.func97, Try.ntmps97
    go_wp2
    go_ret
    exact ⟨ret_bool (by rw [HZ.out]; rfl), ((Below.refl _ _).alloc (Nat.le_refl _) _).alloc (by simp) _⟩
end Go.Proofs.Ytgjkobkcmgliaaa
namespace Go.Proofs.Ytgjkobkcmgliaaa
open Go.RowKit

theorem i64_and63 (n : Int) : bits .and .i64 n 63 = n % 64 := by
  have h63 : (BitVec.ofInt 64 63).toNat = 2 ^ 6 - 1 := by decide
  have key : (BitVec.ofInt 64 n &&& BitVec.ofInt 64 63).toNat = (n % ((2 ^ 64 : Nat) : Int)).toNat % 2 ^ 6 := by
    rw [BitVec.toNat_and, BitVec.toNat_ofInt, h63, Nat.and_two_pow_sub_one_eq_mod]
  show IntKind.i64.wrap ((BitVec.ofInt 64 n &&& BitVec.ofInt 64 63).toNat : Nat) = n % 64
  rw [key, IntKind.wrap_i64]
  omega

set_option maxRecDepth 100000 in
set_option maxHeartbeats 4000000 in
theorem all_p (w : World) : Calls Try.prog 36 #[] w fun e w' => e = .returned (.agg #[.bool true, .int .i64 0, .int .i64 0, .slice none 0 0, .int .i64 0, .slice none 0 0]) ∧ Below w.heap.size w w' := by
  go_enter Try.func36, Try.ntmps36
  go_wp2
  refine bodyPost_ret (v := .agg #[.bool true, .int .i64 0, .int .i64 0, .slice none 0 0, .int .i64 0, .slice none 0 0]) ?_ ?_ ?_
  · simp [results, Try.results36, go_sem]
  · rfl
  · exact ⟨rfl, (Below.refl _ _).alloc (Nat.le_refl _) _⟩

set_option maxRecDepth 100000 in
set_option maxHeartbeats 4000000 in
theorem listof_p (N : Nat → Prop) (t : Ty) (v : Value) (w : World) (hN : ∀ b, N b → b < w.heap.size) (hv : TyVN N w v t) : Calls Try.prog 110 #[v] w (TyPost N (listT t) w) := by
  obtain ⟨r, rfl, hr⟩ := hv
  obtain ⟨ra, rf, rp, pv, rn, fv⟩ := r
  obtain ⟨pa, pc, rfl⟩ : ∃ a c, pv = .slice a t.pairs.length c := hr.pv.val
  obtain ⟨fa, fc, rfl⟩ : ∃ a c, fv = .slice a t.funs.length c := hr.fv.val
  obtain ⟨np, hnp⟩ : ∃ n, n = t.pairs.length := ⟨_, rfl⟩
  obtain ⟨nf, hnf⟩ : ∃ n, n = t.funs.length := ⟨_, rfl⟩
  rw [← hnp, ← hnf] at hr ⊢
  have HR := Lib.hid hr
  have HN := Lib.hid hN
  clear hr hnp hnf hN
  simp only [rawV]
  go_enter Try.func110, Try.ntmps110
  go_wp2
  refine bodyPost_ret (v := .agg #[.bool false, .int .i64 16, .int .i64 2, .slice (some ⟨w.heap.size + 1 + 1, 0, none⟩) 1 1, .int .i64 0, .slice none 0 0]) ?_ ?_ ?_
  · simp [results, Try.results110, go_sem]
  · rfl
  · have hb : Below w.heap.size w ((w.alloc (.cells #[.bool ra, .int .i64 rf, .int .i64 rp, .slice pa np pc, .int .i64 rn, .slice fa nf fc] 49)).alloc (.cells #[.bool false, .int .i64 16, .int .i64 2, .slice (some ⟨w.heap.size + 1 + 1, 0, none⟩) 1 1, .int .i64 0, .slice none 0 0] 49)) := ((Below.refl _ _).alloc (Nat.le_refl _) _).alloc (by simp) _
    have h0 := HR.out.mono (w' := (w.alloc (.cells #[.bool ra, .int .i64 rf, .int .i64 rp, .slice pa np pc, .int .i64 rn, .slice fa nf fc] 49)).alloc (.cells #[.bool false, .int .i64 16, .int .i64 2, .slice (some ⟨w.heap.size + 1 + 1, 0, none⟩) 1 1, .int .i64 0, .slice none 0 0] 49)) (ok' := Lo N ((w.alloc (.cells #[.bool ra, .int .i64 rf, .int .i64 rp, .slice pa np pc, .int .i64 rn, .slice fa nf fc] 49)).alloc (.cells #[.bool false, .int .i64 16, .int .i64 2, .slice (some ⟨w.heap.size + 1 + 1, 0, none⟩) 1 1, .int .i64 0, .slice none 0 0] 49))) (fun _ h => ⟨Nat.lt_of_lt_of_le h.1 hb.size, h.2⟩) fun _ _ h => hb.cell (p := ⟨_, _, none⟩) h.1
    have h1 := TyS.one (fun b h => Nat.lt_of_lt_of_le (HN.out b h) hb.size) h0
    have hs : ((w.alloc (.cells #[.bool ra, .int .i64 rf, .int .i64 rp, .slice pa np pc, .int .i64 rn, .slice fa nf fc] 49)).alloc (.cells #[.bool false, .int .i64 16, .int .i64 2, .slice (some ⟨w.heap.size + 1 + 1, 0, none⟩) 1 1, .int .i64 0, .slice none 0 0] 49)).heap.size = w.heap.size + 1 + 1 := by simp
    rw [hs] at h1
    exact ⟨⟨_, rfl, TyVN.mk h1 (.mkNil _ _)⟩, hb.alloc (by simp; omega) _⟩

set_option maxRecDepth 100000 in
set_option maxHeartbeats 4000000 in
theorem pair_p (N : Nat → Prop) (s t : Ty) (u v : Value) (w : World) (hN : ∀ b, N b → b < w.heap.size) (hu : TyVN N w u s) (hv : TyVN N w v t) : Calls Try.prog 71 #[u, v] w (TyPost N (.mk false 0 1 [s, t] 0 []) w) := by
  obtain ⟨r1, rfl, h1⟩ := hu
  obtain ⟨r2, rfl, h2⟩ := hv
  have HR1 := Lib.hid h1
  have HR2 := Lib.hid h2
  obtain ⟨a1, f1, p1, pv1, n1, fv1⟩ := r1
  obtain ⟨a2, f2, p2, pv2, n2, fv2⟩ := r2
  obtain ⟨pa1, pc1, rfl⟩ : ∃ a c, pv1 = .slice a s.pairs.length c := h1.pv.val
  obtain ⟨fa1, fc1, rfl⟩ : ∃ a c, fv1 = .slice a s.funs.length c := h1.fv.val
  obtain ⟨pa2, pc2, rfl⟩ : ∃ a c, pv2 = .slice a t.pairs.length c := h2.pv.val
  obtain ⟨fa2, fc2, rfl⟩ : ∃ a c, fv2 = .slice a t.funs.length c := h2.fv.val
  generalize s.pairs.length = l1 at HR1 ⊢
  generalize s.funs.length = l2 at HR1 ⊢
  generalize t.pairs.length = l3 at HR2 ⊢
  generalize t.funs.length = l4 at HR2 ⊢
  have HN := Lib.hid hN
  clear h1 h2 hN
  simp only [rawV]
  go_enter Try.func71, Try.ntmps71
  go_wp2
  refine bodyPost_ret (v := .agg #[.bool false, .int .i64 0, .int .i64 1, .slice (some ⟨w.heap.size + 1 + 1 + 1, 0, none⟩) 2 2, .int .i64 0, .slice none 0 0]) ?_ ?_ ?_
  · simp [results, Try.results71, go_sem]
  · rfl
  · generalize hW0 : (((w.alloc _).alloc _).alloc _) = W0
    have hsz : W0.heap.size = w.heap.size + 1 + 1 + 1 := by rw [← hW0]; simp
    have hb : Below w.heap.size w W0 := by rw [← hW0]; exact (((Below.refl _ _).alloc (Nat.le_refl _) _).alloc (by simp) _).alloc (by simp; omega) _
    generalize hW1 : W0.alloc _ = W1
    have hh : W1.heap[w.heap.size + 1 + 1 + 1]? = some (.cells #[.bool a1, .int .i64 f1, .int .i64 p1, .slice pa1 l1 pc1, .int .i64 n1, .slice fa1 l2 fc1, .bool a2, .int .i64 f2, .int .i64 p2, .slice pa2 l3 pc2, .int .i64 n2, .slice fa2 l4 fc2] 49 (0, 0)) := by
      rw [← hW1, ← hsz]; exact heap_alloc_new _ _
    have hb1 : Below w.heap.size w W1 := by rw [← hW1]; exact hb.alloc (by omega) _
    have h := TyS.two (N := N) (w := W1) (b := w.heap.size + 1 + 1 + 1) (cap := 2) ⟨(Array.getElem?_eq_some_iff.1 hh).1, fun h => by have := HN.out _ h; omega⟩
      (r := ⟨a1, f1, p1, .slice pa1 l1 pc1, n1, .slice fa1 l2 fc1⟩) (s := ⟨a2, f2, p2, .slice pa2 l3 pc2, n2, .slice fa2 l4 fc2⟩)
      ⟨Lib.cell_of_heap hh 0, Lib.cell_of_heap hh 1, Lib.cell_of_heap hh 2, Lib.cell_of_heap hh 3, Lib.cell_of_heap hh 4, Lib.cell_of_heap hh 5⟩
      ⟨Lib.cell_of_heap hh 6, Lib.cell_of_heap hh 7, Lib.cell_of_heap hh 8, Lib.cell_of_heap hh 9, Lib.cell_of_heap hh 10, Lib.cell_of_heap hh 11⟩
      (HR1.out.mono (fun _ h => ⟨Nat.lt_of_lt_of_le h.1 hb1.size, h.2⟩) fun _ _ h => hb1.cell (p := ⟨_, _, none⟩) h.1) (HR2.out.mono (fun _ h => ⟨Nat.lt_of_lt_of_le h.1 hb1.size, h.2⟩) fun _ _ h => hb1.cell (p := ⟨_, _, none⟩) h.1)
    exact ⟨⟨_, rfl, TyVN.mk h (.mkNil _ _)⟩, hb1⟩

theorem list_form {N : Nat → Prop} {w : World} {v : Value} {d : Ty} (h : TyVN N w v (listT d)) : ∃ a c a' c', v = .agg #[.bool false, .int .i64 16, .int .i64 2, .slice a 1 c, .int .i64 0, .slice a' 0 c'] := by
  obtain ⟨a, c, a', c', e, _⟩ := h.form
  exact ⟨a, c, a', c', e⟩
/-- a type whose own fields may be -/
def HdT (t : Ty) : Prop := headOK t = true
theorem headH {t : Ty} (h : HdT t) : 0 ≤ t.flat ∧ t.flat ≤ 63 ∧ 0 ≤ t.pair ∧ t.pair ≤ 2 ∧ 0 ≤ t.fn ∧ t.fn ≤ 2 ∧ (t.all = true → t.flat = 0 ∧ t.pair = 0 ∧ t.fn = 0) ∧
    (t.pairs.length : Int) = (if t.pair = 1 then 2 else if t.pair = 2 then 1 else 0) ∧ (t.fn ≠ 1 → t.funs.length = 0) ∧ (t.fn = 1 → 1 ≤ t.funs.length ∧ t.funs.length ≤ 9) := of_decide_eq_true h
theorem okTy.hd {t : Ty} (h : okTy t) : HdT t := h.head
theorem ok_pairs {t : Ty} (h : HdT t) : (t.pair = 0 ∧ t.pairs.length = 0) ∨ (t.pair = 1 ∧ t.pairs.length = 2) ∨ (t.pair = 2 ∧ t.pairs.length = 1) := by
  have h := headH h
  obtain ⟨_, _, h1, h2, _, _, _, h3, _⟩ := h
  by_cases e1 : t.pair = 1
  · rw [if_pos e1] at h3; omega
  · rw [if_neg e1] at h3
    by_cases e2 : t.pair = 2
    · rw [if_pos e2] at h3; omega
    · rw [if_neg e2] at h3; omega

set_option maxRecDepth 100000 in
set_option maxHeartbeats 8000000 in
theorem car_p (N : Nat → Prop) (t : Ty) (v : Value) (w : World) (hN : ∀ b, N b → b < w.heap.size) (hv : TyVN N w v t) (hok : HdT t) : Calls Try.prog 96 #[v] w (TwPost N (carT t) (carB t) w) := by
  obtain ⟨pa, pc, fa, fc, rfl, hp, hf⟩ := hv.form
  have hcase := ok_pairs hok
  have hallp := (headH hok).2.2.2.2.2.2.1
  obtain ⟨np, hnp⟩ : ∃ n, n = t.pairs.length := ⟨_, rfl⟩
  obtain ⟨nf, hnf⟩ : ∃ n, n = t.funs.length := ⟨_, rfl⟩
  obtain ⟨ta, hta⟩ : ∃ a, a = t.all := ⟨_, rfl⟩
  obtain ⟨tf, htf⟩ : ∃ a, a = t.flat := ⟨_, rfl⟩
  obtain ⟨tp, htp⟩ : ∃ a, a = t.pair := ⟨_, rfl⟩
  obtain ⟨tn, htn⟩ : ∃ a, a = t.fn := ⟨_, rfl⟩
  have hA : t.all = true → carT t = tyAll ∧ carB t = true := fun h => by simp [carT, carB, h]
  have h0 : t.all = false → t.pair = 0 → carT t = ty0 ∧ carB t = false := fun h h' => by simp [carT, carB, h, h']
  have h1 : t.all = false → t.pair = 1 → t.pairs.length = 2 → carT t = t.pairs.getD 0 ty0 ∧ carB t = true := fun h h' h2 => by simp [carT, carB, h, h', h2]
  have h2 : t.all = false → t.pair = 2 → t.pairs.length = 1 → carT t = t.pairs.getD 0 ty0 ∧ carB t = true := fun h h' h2 => by simp [carT, carB, h, h', h2]
  rw [← hta] at hA
  rw [← hta, ← htp] at h0 h1 h2
  rw [← hnp] at h1 h2
  rw [← hta, ← htp] at hallp
  rw [← hnp, ← htp] at hcase
  rw [← hnp] at hp
  rw [← hnp, ← hnf, ← hta, ← htf, ← htp, ← htn]
  have HPN := Lib.hid hnp
  have HP := Lib.hid hp
  have HN := Lib.hid hN
  clear hp hf hnp hnf hta htf htp htn hv hN hok
  obtain ⟨W, hW⟩ : ∃ W, W = (w.alloc (.cells #[.bool ta, .int .i64 tf, .int .i64 tp, .slice pa np pc, .int .i64 tn, .slice fa nf fc] 49)).alloc (.cells #[.bool false, .int .i64 0, .int .i64 0, .slice none 0 0, .int .i64 0, .slice none 0 0] 49) := ⟨_, rfl⟩
  obtain ⟨g, hg⟩ : ∃ g, g = w.heap.size := ⟨_, rfl⟩
  have HBX := Lib.hid (show BoxAt W g ta tf tp (.slice pa np pc) tn (.slice fa nf fc) by rw [hW, hg]; exact (BoxAt.made _ _ _ _ _ _ _).keep ((Below.refl _ _).alloc (Nat.le_refl _) _))
  have HBR := Lib.hid (show BoxAt W (g + 1) false 0 0 (.slice none 0 0) 0 (.slice none 0 0) by rw [hW, hg]; have := BoxAt.made (w.alloc (.cells #[.bool ta, .int .i64 tf, .int .i64 tp, .slice pa np pc, .int .i64 tn, .slice fa nf fc] 49)) false 0 0 (.slice none 0 0) 0 (.slice none 0 0); simpa using this)
  have HBW := Lib.hid (show Below w.heap.size w W by rw [hW]; exact ((Below.refl _ _).alloc (Nat.le_refl _) _).alloc (by simp) _)
  have HG := Lib.hid hg
  have HW := Lib.hid hW
  clear hg hW
  cases ta with
  | true =>
    obtain ⟨h3, h4⟩ := hA rfl
    have H1 := Lib.hid h3
    have H2 := Lib.hid h4
    clear h0 h1 h2 h3 h4 hA hcase hallp HPN HP
    go_enter Try.func96, Try.ntmps96
    go_wp2_with fail
    rw [← HG.out, ← HW.out]
    refine (all_p W).mono ?_
    rintro e w2 ⟨rfl, hb2⟩
    have hr := HBR.out.keep hb2
    have r0 := hr.c0
    have r1 := hr.c1
    have r2 := hr.c2
    have r3 := hr.c3
    have r4 := hr.c4
    have r5 := hr.c5
    have rf := hr.fr
    have HB := Lib.hid (HBW.out.trans (hb2.mono HBW.out.size))
    clear hb2 hr
    go_wp2
    refine bodyPost_ret (v := .tuple #[.agg #[.bool true, .int .i64 0, .int .i64 0, .slice none 0 0, .int .i64 0, .slice none 0 0], .bool true]) ?_ ?_ ?_
    · simp [results, Try.results96, go_sem, r0, r1, r2, r3, r4, r5]
    · rfl
    · exact ⟨⟨.agg #[.bool true, .int .i64 0, .int .i64 0, .slice none 0 0, .int .i64 0, .slice none 0 0], by rw [H2.out], by rw [H1.out]; exact tyAll_v _ _⟩, Below.set6 HB.out (by rw [HG.out]; omega)⟩
  | false =>
    clear hA hallp
    rcases hcase with ⟨rfl, rfl⟩ | ⟨rfl, rfl⟩ | ⟨rfl, rfl⟩
    · obtain ⟨h3, h4⟩ := h0 rfl rfl
      have H1 := Lib.hid h3
      have H2 := Lib.hid h4
      clear h0 h1 h2 h3 h4 HPN HP
      go_enter Try.func96, Try.ntmps96
      go_wp2_with fail
      rw [← HG.out, ← HW.out]
      refine (hasP_raw _ _ _ _ _ _ _ _ _ _ W).mono ?_
      rintro e w2 ⟨rfl, hb2⟩
      have hv : hasPr 0 0 = false := rfl
      rw [hv]
      have hr := HBR.out.keep hb2
      have r0 := hr.c0
      have r1 := hr.c1
      have r2 := hr.c2
      have r3 := hr.c3
      have r4 := hr.c4
      have r5 := hr.c5
      have rf := hr.fr
      have HB := Lib.hid (HBW.out.trans (hb2.mono HBW.out.size))
      clear hb2 hr hv
      go_wp2
      refine bodyPost_ret (v := .tuple #[.agg #[.bool false, .int .i64 0, .int .i64 0, .slice none 0 0, .int .i64 0, .slice none 0 0], .bool false]) ?_ ?_ ?_
      · simp [results, Try.results96, go_sem, r0, r1, r2, r3, r4, r5]
      · rfl
      · exact ⟨⟨.agg #[.bool false, .int .i64 0, .int .i64 0, .slice none 0 0, .int .i64 0, .slice none 0 0], by rw [H2.out], by rw [H1.out]; exact ty0_v _ _⟩, Below.set6 HB.out (by rw [HG.out]; omega)⟩
    · obtain ⟨h3, h4⟩ := h1 rfl rfl rfl
      obtain ⟨d, hd⟩ : ∃ d, t.pairs.getD 0 ty0 = d := ⟨_, rfl⟩
      have hj : 0 < t.pairs.length := by rw [← HPN.out]; omega
      obtain ⟨b, off, p1, c1, p2, c2, rfl, hb, e0, e1, e2, e3, e4, e5, hu⟩ := TySN.elem HP.out hj hd
      rw [hd] at h3
      have H1 := Lib.hid h3
      have H2 := Lib.hid h4
      obtain ⟨q1, hq1⟩ : ∃ q, q = d.pairs.length := ⟨_, rfl⟩
      obtain ⟨q2, hq2⟩ : ∃ q, q = d.funs.length := ⟨_, rfl⟩
      obtain ⟨da, hda⟩ : ∃ q, q = d.all := ⟨_, rfl⟩
      obtain ⟨df, hdf⟩ : ∃ q, q = d.flat := ⟨_, rfl⟩
      obtain ⟨dp, hdp⟩ : ∃ q, q = d.pair := ⟨_, rfl⟩
      obtain ⟨dn, hdn⟩ : ∃ q, q = d.fn := ⟨_, rfl⟩
      rw [← hq1] at e3 hu
      rw [← hq2] at e5 hu
      rw [← hda] at e0 hu
      rw [← hdf] at e1 hu
      rw [← hdp] at e2 hu
      rw [← hdn] at e4 hu
      simp only [Nat.zero_mul] at e0 e1 e2 e3 e4 e5
      have HU := Lib.hid hu
      have HE := Lib.hid (show w.cell? ⟨b, off + 0, none⟩ = some (.bool da) ∧ w.cell? ⟨b, off + 0 + 1, none⟩ = some (.int .i64 df) ∧ w.cell? ⟨b, off + 0 + 2, none⟩ = some (.int .i64 dp) ∧ w.cell? ⟨b, off + 0 + 3, none⟩ = some (.slice p1 q1 c1) ∧ w.cell? ⟨b, off + 0 + 4, none⟩ = some (.int .i64 dn) ∧ w.cell? ⟨b, off + 0 + 5, none⟩ = some (.slice p2 q2 c2) from ⟨e0, e1, e2, e3, e4, e5⟩)
      have HLT := Lib.hid hb
      clear h0 h1 h2 h3 h4 HPN HP hd hj hu hq1 hq2 hda hdf hdp hdn hb e0 e1 e2 e3 e4 e5
      go_enter Try.func96, Try.ntmps96
      go_wp2_with fail
      rw [← HG.out, ← HW.out]
      refine (hasP_raw _ _ _ _ _ _ _ _ _ _ W).mono ?_
      rintro e w2 ⟨rfl, hb2⟩
      have hv : hasPr 1 2 = true := rfl
      rw [hv]
      have HB := Lib.hid (HBW.out.trans (hb2.mono HBW.out.size))
      have hx := HBX.out.keep hb2
      have x2 := hx.c2
      have x3 := hx.c3
      have hr := HBR.out.keep hb2
      have r0 := hr.c0
      have r1 := hr.c1
      have r2 := hr.c2
      have r3 := hr.c3
      have r4 := hr.c4
      have r5 := hr.c5
      have rf := hr.fr
      have hcc : ∀ o, w2.cell? ⟨b, o, none⟩ = w.cell? ⟨b, o, none⟩ := fun o => HB.out.cell (p := ⟨b, o, none⟩) HLT.out
      have e0 := (hcc _).trans HE.out.1
      have e1 := (hcc _).trans HE.out.2.1
      have e2 := (hcc _).trans HE.out.2.2.1
      have e3 := (hcc _).trans HE.out.2.2.2.1
      have e4 := (hcc _).trans HE.out.2.2.2.2.1
      have e5 := (hcc _).trans HE.out.2.2.2.2.2
      simp only [Nat.add_zero] at e0 e1 e2 e3 e4 e5
      have HB2 := Lib.hid hb2
      clear hb2 hr hv hx hcc
      go_wp2
      refine bodyPost_ret (v := .tuple #[.agg #[.bool da, .int .i64 df, .int .i64 dp, .slice p1 q1 c1, .int .i64 dn, .slice p2 q2 c2], .bool true]) ?_ ?_ ?_
      · simp [results, Try.results96, go_sem, r0, r1, r2, r3, r4, r5]
      · rfl
      · have hbw := Below.set6 (a' := da) (f' := df) (p' := dp) (pv' := .slice p1 q1 c1) (k' := dn) (fv' := .slice p2 q2 c2) HB.out (g := g + 1) (by rw [HG.out]; omega)
        exact ⟨⟨_, by rw [H2.out], by rw [H1.out]; exact HU.out.below hbw⟩, hbw⟩
    · obtain ⟨h3, h4⟩ := h2 rfl rfl rfl
      obtain ⟨d, hd⟩ : ∃ d, t.pairs.getD 0 ty0 = d := ⟨_, rfl⟩
      have hj : 0 < t.pairs.length := by rw [← HPN.out]; omega
      obtain ⟨b, off, p1, c1, p2, c2, rfl, hb, e0, e1, e2, e3, e4, e5, hu⟩ := TySN.elem HP.out hj hd
      rw [hd] at h3
      have H1 := Lib.hid h3
      have H2 := Lib.hid h4
      obtain ⟨q1, hq1⟩ : ∃ q, q = d.pairs.length := ⟨_, rfl⟩
      obtain ⟨q2, hq2⟩ : ∃ q, q = d.funs.length := ⟨_, rfl⟩
      obtain ⟨da, hda⟩ : ∃ q, q = d.all := ⟨_, rfl⟩
      obtain ⟨df, hdf⟩ : ∃ q, q = d.flat := ⟨_, rfl⟩
      obtain ⟨dp, hdp⟩ : ∃ q, q = d.pair := ⟨_, rfl⟩
      obtain ⟨dn, hdn⟩ : ∃ q, q = d.fn := ⟨_, rfl⟩
      rw [← hq1] at e3 hu
      rw [← hq2] at e5 hu
      rw [← hda] at e0 hu
      rw [← hdf] at e1 hu
      rw [← hdp] at e2 hu
      rw [← hdn] at e4 hu
      simp only [Nat.zero_mul] at e0 e1 e2 e3 e4 e5
      have HU := Lib.hid hu
      have HE := Lib.hid (show w.cell? ⟨b, off + 0, none⟩ = some (.bool da) ∧ w.cell? ⟨b, off + 0 + 1, none⟩ = some (.int .i64 df) ∧ w.cell? ⟨b, off + 0 + 2, none⟩ = some (.int .i64 dp) ∧ w.cell? ⟨b, off + 0 + 3, none⟩ = some (.slice p1 q1 c1) ∧ w.cell? ⟨b, off + 0 + 4, none⟩ = some (.int .i64 dn) ∧ w.cell? ⟨b, off + 0 + 5, none⟩ = some (.slice p2 q2 c2) from ⟨e0, e1, e2, e3, e4, e5⟩)
      have HLT := Lib.hid hb
      clear h0 h1 h2 h3 h4 HPN HP hd hj hu hq1 hq2 hda hdf hdp hdn hb e0 e1 e2 e3 e4 e5
      go_enter Try.func96, Try.ntmps96
      go_wp2_with fail
      rw [← HG.out, ← HW.out]
      refine (hasP_raw _ _ _ _ _ _ _ _ _ _ W).mono ?_
      rintro e w2 ⟨rfl, hb2⟩
      have hv : hasPr 2 1 = true := rfl
      rw [hv]
      have HB := Lib.hid (HBW.out.trans (hb2.mono HBW.out.size))
      have hx := HBX.out.keep hb2
      have x2 := hx.c2
      have x3 := hx.c3
      have hr := HBR.out.keep hb2
      have r0 := hr.c0
      have r1 := hr.c1
      have r2 := hr.c2
      have r3 := hr.c3
      have r4 := hr.c4
      have r5 := hr.c5
      have rf := hr.fr
      have hcc : ∀ o, w2.cell? ⟨b, o, none⟩ = w.cell? ⟨b, o, none⟩ := fun o => HB.out.cell (p := ⟨b, o, none⟩) HLT.out
      have e0 := (hcc _).trans HE.out.1
      have e1 := (hcc _).trans HE.out.2.1
      have e2 := (hcc _).trans HE.out.2.2.1
      have e3 := (hcc _).trans HE.out.2.2.2.1
      have e4 := (hcc _).trans HE.out.2.2.2.2.1
      have e5 := (hcc _).trans HE.out.2.2.2.2.2
      simp only [Nat.add_zero] at e0 e1 e2 e3 e4 e5
      have HB2 := Lib.hid hb2
      clear hb2 hr hv hx hcc
      go_wp2
      refine bodyPost_ret (v := .tuple #[.agg #[.bool da, .int .i64 df, .int .i64 dp, .slice p1 q1 c1, .int .i64 dn, .slice p2 q2 c2], .bool true]) ?_ ?_ ?_
      · simp [results, Try.results96, go_sem, r0, r1, r2, r3, r4, r5]
      · rfl
      · have hbw := Below.set6 (a' := da) (f' := df) (p' := dp) (pv' := .slice p1 q1 c1) (k' := dn) (fv' := .slice p2 q2 c2) HB.out (g := g + 1) (by rw [HG.out]; omega)
        exact ⟨⟨_, by rw [H2.out], by rw [H1.out]; exact HU.out.below hbw⟩, hbw⟩

set_option maxRecDepth 100000 in
set_option maxHeartbeats 8000000 in
theorem cdr_p (N : Nat → Prop) (t : Ty) (v : Value) (w : World) (hN : ∀ b, N b → b < w.heap.size) (hv : TyVN N w v t) (hok : HdT t) : Calls Try.prog 98 #[v] w (TwPost N (cdrT t) (cdrB t) w) := by
  obtain ⟨pa, pc, fa, fc, rfl, hp, hf⟩ := hv.form
  have hcase := ok_pairs hok
  have hallp := (headH hok).2.2.2.2.2.2.1
  obtain ⟨np, hnp⟩ : ∃ n, n = t.pairs.length := ⟨_, rfl⟩
  obtain ⟨nf, hnf⟩ : ∃ n, n = t.funs.length := ⟨_, rfl⟩
  obtain ⟨ta, hta⟩ : ∃ a, a = t.all := ⟨_, rfl⟩
  obtain ⟨tf, htf⟩ : ∃ a, a = t.flat := ⟨_, rfl⟩
  obtain ⟨tp, htp⟩ : ∃ a, a = t.pair := ⟨_, rfl⟩
  obtain ⟨tn, htn⟩ : ∃ a, a = t.fn := ⟨_, rfl⟩
  have hA : t.all = true → cdrT t = tyAll ∧ cdrB t = true := fun h => by simp [cdrT, cdrB, h]
  have h0 : t.all = false → t.pair = 0 → cdrT t = ty0 ∧ cdrB t = false := fun h h' => by simp [cdrT, cdrB, h, h']
  have h1 : t.all = false → t.pair = 1 → t.pairs.length = 2 → cdrT t = t.pairs.getD 1 ty0 ∧ cdrB t = true := fun h h' h2 => by simp [cdrT, cdrB, h, h', h2]
  have h2 : t.all = false → t.pair = 2 → t.pairs.length = 1 → cdrT t = listT (t.pairs.getD 0 ty0) ∧ cdrB t = true := fun h h' h2 => by simp [cdrT, cdrB, h, h', h2]
  rw [← hta] at hA
  rw [← hta, ← htp] at h0 h1 h2
  rw [← hnp] at h1 h2
  rw [← hta, ← htp] at hallp
  rw [← hnp, ← htp] at hcase
  rw [← hnp] at hp
  rw [← hnp, ← hnf, ← hta, ← htf, ← htp, ← htn]
  have HPN := Lib.hid hnp
  have HP := Lib.hid hp
  have HN := Lib.hid hN
  clear hp hf hnp hnf hta htf htp htn hv hN hok
  obtain ⟨W, hW⟩ : ∃ W, W = (w.alloc (.cells #[.bool ta, .int .i64 tf, .int .i64 tp, .slice pa np pc, .int .i64 tn, .slice fa nf fc] 49)).alloc (.cells #[.bool false, .int .i64 0, .int .i64 0, .slice none 0 0, .int .i64 0, .slice none 0 0] 49) := ⟨_, rfl⟩
  obtain ⟨g, hg⟩ : ∃ g, g = w.heap.size := ⟨_, rfl⟩
  have HBX := Lib.hid (show BoxAt W g ta tf tp (.slice pa np pc) tn (.slice fa nf fc) by rw [hW, hg]; exact (BoxAt.made _ _ _ _ _ _ _).keep ((Below.refl _ _).alloc (Nat.le_refl _) _))
  have HBR := Lib.hid (show BoxAt W (g + 1) false 0 0 (.slice none 0 0) 0 (.slice none 0 0) by rw [hW, hg]; have := BoxAt.made (w.alloc (.cells #[.bool ta, .int .i64 tf, .int .i64 tp, .slice pa np pc, .int .i64 tn, .slice fa nf fc] 49)) false 0 0 (.slice none 0 0) 0 (.slice none 0 0); simpa using this)
  have HBW := Lib.hid (show Below w.heap.size w W by rw [hW]; exact ((Below.refl _ _).alloc (Nat.le_refl _) _).alloc (by simp) _)
  have HG := Lib.hid hg
  have HW := Lib.hid hW
  clear hg hW
  cases ta with
  | true =>
    obtain ⟨h3, h4⟩ := hA rfl
    have H1 := Lib.hid h3
    have H2 := Lib.hid h4
    clear h0 h1 h2 h3 h4 hA hcase hallp HPN HP
    go_enter Try.func98, Try.ntmps98
    go_wp2_with fail
    rw [← HG.out, ← HW.out]
    refine (all_p W).mono ?_
    rintro e w2 ⟨rfl, hb2⟩
    have hr := HBR.out.keep hb2
    have r0 := hr.c0
    have r1 := hr.c1
    have r2 := hr.c2
    have r3 := hr.c3
    have r4 := hr.c4
    have r5 := hr.c5
    have rf := hr.fr
    have HB := Lib.hid (HBW.out.trans (hb2.mono HBW.out.size))
    clear hb2 hr
    go_wp2
    refine bodyPost_ret (v := .tuple #[.agg #[.bool true, .int .i64 0, .int .i64 0, .slice none 0 0, .int .i64 0, .slice none 0 0], .bool true]) ?_ ?_ ?_
    · simp [results, Try.results98, go_sem, r0, r1, r2, r3, r4, r5]
    · rfl
    · exact ⟨⟨.agg #[.bool true, .int .i64 0, .int .i64 0, .slice none 0 0, .int .i64 0, .slice none 0 0], by rw [H2.out], by rw [H1.out]; exact tyAll_v _ _⟩, Below.set6 HB.out (by rw [HG.out]; omega)⟩
  | false =>
    clear hA hallp
    rcases hcase with ⟨rfl, rfl⟩ | ⟨rfl, rfl⟩ | ⟨rfl, rfl⟩
    · obtain ⟨h3, h4⟩ := h0 rfl rfl
      have H1 := Lib.hid h3
      have H2 := Lib.hid h4
      clear h0 h1 h2 h3 h4 HPN HP
      go_enter Try.func98, Try.ntmps98
      go_wp2_with fail
      rw [← HG.out, ← HW.out]
      refine (hasP_raw _ _ _ _ _ _ _ _ _ _ W).mono ?_
      rintro e w2 ⟨rfl, hb2⟩
      have hv : hasPr 0 0 = false := rfl
      rw [hv]
      have hr := HBR.out.keep hb2
      have r0 := hr.c0
      have r1 := hr.c1
      have r2 := hr.c2
      have r3 := hr.c3
      have r4 := hr.c4
      have r5 := hr.c5
      have rf := hr.fr
      have HB := Lib.hid (HBW.out.trans (hb2.mono HBW.out.size))
      clear hb2 hr hv
      go_wp2
      refine bodyPost_ret (v := .tuple #[.agg #[.bool false, .int .i64 0, .int .i64 0, .slice none 0 0, .int .i64 0, .slice none 0 0], .bool false]) ?_ ?_ ?_
      · simp [results, Try.results98, go_sem, r0, r1, r2, r3, r4, r5]
      · rfl
      · exact ⟨⟨.agg #[.bool false, .int .i64 0, .int .i64 0, .slice none 0 0, .int .i64 0, .slice none 0 0], by rw [H2.out], by rw [H1.out]; exact ty0_v _ _⟩, Below.set6 HB.out (by rw [HG.out]; omega)⟩
    · obtain ⟨h3, h4⟩ := h1 rfl rfl rfl
      obtain ⟨d, hd⟩ : ∃ d, t.pairs.getD 1 ty0 = d := ⟨_, rfl⟩
      have hj : 1 < t.pairs.length := by rw [← HPN.out]; omega
      obtain ⟨b, off, p1, c1, p2, c2, rfl, hb, e0, e1, e2, e3, e4, e5, hu⟩ := TySN.elem HP.out hj hd
      rw [hd] at h3
      have H1 := Lib.hid h3
      have H2 := Lib.hid h4
      obtain ⟨q1, hq1⟩ : ∃ q, q = d.pairs.length := ⟨_, rfl⟩
      obtain ⟨q2, hq2⟩ : ∃ q, q = d.funs.length := ⟨_, rfl⟩
      obtain ⟨da, hda⟩ : ∃ q, q = d.all := ⟨_, rfl⟩
      obtain ⟨df, hdf⟩ : ∃ q, q = d.flat := ⟨_, rfl⟩
      obtain ⟨dp, hdp⟩ : ∃ q, q = d.pair := ⟨_, rfl⟩
      obtain ⟨dn, hdn⟩ : ∃ q, q = d.fn := ⟨_, rfl⟩
      rw [← hq1] at e3 hu
      rw [← hq2] at e5 hu
      rw [← hda] at e0 hu
      rw [← hdf] at e1 hu
      rw [← hdp] at e2 hu
      rw [← hdn] at e4 hu
      simp only [Nat.one_mul] at e0 e1 e2 e3 e4 e5
      have HU := Lib.hid hu
      have HE := Lib.hid (show w.cell? ⟨b, off + 6, none⟩ = some (.bool da) ∧ w.cell? ⟨b, off + 6 + 1, none⟩ = some (.int .i64 df) ∧ w.cell? ⟨b, off + 6 + 2, none⟩ = some (.int .i64 dp) ∧ w.cell? ⟨b, off + 6 + 3, none⟩ = some (.slice p1 q1 c1) ∧ w.cell? ⟨b, off + 6 + 4, none⟩ = some (.int .i64 dn) ∧ w.cell? ⟨b, off + 6 + 5, none⟩ = some (.slice p2 q2 c2) from ⟨e0, e1, e2, e3, e4, e5⟩)
      have HLT := Lib.hid hb
      clear h0 h1 h2 h3 h4 HPN HP hd hj hu hq1 hq2 hda hdf hdp hdn hb e0 e1 e2 e3 e4 e5
      go_enter Try.func98, Try.ntmps98
      go_wp2_with fail
      rw [← HG.out, ← HW.out]
      refine (hasP_raw _ _ _ _ _ _ _ _ _ _ W).mono ?_
      rintro e w2 ⟨rfl, hb2⟩
      have hv : hasPr 1 2 = true := rfl
      rw [hv]
      have HB := Lib.hid (HBW.out.trans (hb2.mono HBW.out.size))
      have hx := HBX.out.keep hb2
      have x2 := hx.c2
      have x3 := hx.c3
      have hr := HBR.out.keep hb2
      have r0 := hr.c0
      have r1 := hr.c1
      have r2 := hr.c2
      have r3 := hr.c3
      have r4 := hr.c4
      have r5 := hr.c5
      have rf := hr.fr
      have hcc : ∀ o, w2.cell? ⟨b, o, none⟩ = w.cell? ⟨b, o, none⟩ := fun o => HB.out.cell (p := ⟨b, o, none⟩) HLT.out
      have e0 := (hcc _).trans HE.out.1
      have e1 := (hcc _).trans HE.out.2.1
      have e2 := (hcc _).trans HE.out.2.2.1
      have e3 := (hcc _).trans HE.out.2.2.2.1
      have e4 := (hcc _).trans HE.out.2.2.2.2.1
      have e5 := (hcc _).trans HE.out.2.2.2.2.2
      simp only [Nat.add_assoc, Nat.reduceAdd] at e0 e1 e2 e3 e4 e5
      have HB2 := Lib.hid hb2
      clear hb2 hr hv hx hcc
      go_wp2
      refine bodyPost_ret (v := .tuple #[.agg #[.bool da, .int .i64 df, .int .i64 dp, .slice p1 q1 c1, .int .i64 dn, .slice p2 q2 c2], .bool true]) ?_ ?_ ?_
      · simp [results, Try.results98, go_sem, r0, r1, r2, r3, r4, r5]
      · rfl
      · have hbw := Below.set6 (a' := da) (f' := df) (p' := dp) (pv' := .slice p1 q1 c1) (k' := dn) (fv' := .slice p2 q2 c2) HB.out (g := g + 1) (by rw [HG.out]; omega)
        exact ⟨⟨_, by rw [H2.out], by rw [H1.out]; exact HU.out.below hbw⟩, hbw⟩
    · obtain ⟨h3, h4⟩ := h2 rfl rfl rfl
      obtain ⟨d, hd⟩ : ∃ d, t.pairs.getD 0 ty0 = d := ⟨_, rfl⟩
      have hj : 0 < t.pairs.length := by rw [← HPN.out]; omega
      obtain ⟨b, off, p1, c1, p2, c2, rfl, hb, e0, e1, e2, e3, e4, e5, hu⟩ := TySN.elem HP.out hj hd
      rw [hd] at h3
      have H1 := Lib.hid h3
      have H2 := Lib.hid h4
      obtain ⟨q1, hq1⟩ : ∃ q, q = d.pairs.length := ⟨_, rfl⟩
      obtain ⟨q2, hq2⟩ : ∃ q, q = d.funs.length := ⟨_, rfl⟩
      obtain ⟨da, hda⟩ : ∃ q, q = d.all := ⟨_, rfl⟩
      obtain ⟨df, hdf⟩ : ∃ q, q = d.flat := ⟨_, rfl⟩
      obtain ⟨dp, hdp⟩ : ∃ q, q = d.pair := ⟨_, rfl⟩
      obtain ⟨dn, hdn⟩ : ∃ q, q = d.fn := ⟨_, rfl⟩
      rw [← hq1] at e3 hu
      rw [← hq2] at e5 hu
      rw [← hda] at e0 hu
      rw [← hdf] at e1 hu
      rw [← hdp] at e2 hu
      rw [← hdn] at e4 hu
      simp only [Nat.zero_mul] at e0 e1 e2 e3 e4 e5
      have HU := Lib.hid hu
      have HE := Lib.hid (show w.cell? ⟨b, off + 0, none⟩ = some (.bool da) ∧ w.cell? ⟨b, off + 0 + 1, none⟩ = some (.int .i64 df) ∧ w.cell? ⟨b, off + 0 + 2, none⟩ = some (.int .i64 dp) ∧ w.cell? ⟨b, off + 0 + 3, none⟩ = some (.slice p1 q1 c1) ∧ w.cell? ⟨b, off + 0 + 4, none⟩ = some (.int .i64 dn) ∧ w.cell? ⟨b, off + 0 + 5, none⟩ = some (.slice p2 q2 c2) from ⟨e0, e1, e2, e3, e4, e5⟩)
      have HLT := Lib.hid hb
      clear h0 h1 h2 h3 h4 HPN HP hd hj hu hq1 hq2 hda hdf hdp hdn hb e0 e1 e2 e3 e4 e5
      go_enter Try.func98, Try.ntmps98
      go_wp2_with fail
      rw [← HG.out, ← HW.out]
      refine (hasP_raw _ _ _ _ _ _ _ _ _ _ W).mono ?_
      rintro e w2 ⟨rfl, hb2⟩
      have hv : hasPr 2 1 = true := rfl
      rw [hv]
      have HB := Lib.hid (HBW.out.trans (hb2.mono HBW.out.size))
      have hx := HBX.out.keep hb2
      have x2 := hx.c2
      have x3 := hx.c3
      have hr := HBR.out.keep hb2
      have r0 := hr.c0
      have r1 := hr.c1
      have r2 := hr.c2
      have r3 := hr.c3
      have r4 := hr.c4
      have r5 := hr.c5
      have rf := hr.fr
      have hcc : ∀ o, w2.cell? ⟨b, o, none⟩ = w.cell? ⟨b, o, none⟩ := fun o => HB.out.cell (p := ⟨b, o, none⟩) HLT.out
      have e0 := (hcc _).trans HE.out.1
      have e1 := (hcc _).trans HE.out.2.1
      have e2 := (hcc _).trans HE.out.2.2.1
      have e3 := (hcc _).trans HE.out.2.2.2.1
      have e4 := (hcc _).trans HE.out.2.2.2.2.1
      have e5 := (hcc _).trans HE.out.2.2.2.2.2
      simp only [Nat.add_zero] at e0 e1 e2 e3 e4 e5
      have HB2 := Lib.hid hb2
      clear hb2 hr hv hx hcc
      clear r0 r1 r2 r3 r4 r5 rf
      go_wp2_with fail
      refine (listof_p (fun b => N b ∨ b = g + 1) d _ w2 (fun b h => h.elim (fun h => Nat.lt_of_lt_of_le (HN.out b h) HB.out.size) (fun h => by rw [h]; exact Nat.lt_of_lt_of_le HBR.out.lt HB2.out.size)) (HU.out.later HB.out (fun b h => h.imp id (fun h => by rw [h, HG.out]; omega)))).mono ?_
      rintro e w3 ⟨⟨v, rfl, hv⟩, hb3⟩
      obtain ⟨la, lc, ma, mc, rfl⟩ := list_form hv
      have HV := Lib.hid hv
      have HB3 := Lib.hid (HB.out.trans (hb3.mono HB.out.size))
      have hr := (HBR.out.keep HB2.out).keep hb3
      have r0 := hr.c0
      have r1 := hr.c1
      have r2 := hr.c2
      have r3 := hr.c3
      have r4 := hr.c4
      have r5 := hr.c5
      have rf := hr.fr
      clear hv hb3 hr
      go_wp2
      refine bodyPost_ret (v := .tuple #[.agg #[.bool false, .int .i64 16, .int .i64 2, .slice la 1 lc, .int .i64 0, .slice ma 0 mc], .bool true]) ?_ ?_ ?_
      · simp [results, Try.results98, go_sem, r0, r1, r2, r3, r4, r5]
      · rfl
      · have hbw := Below.set6 (a' := false) (f' := 16) (p' := 2) (pv' := .slice la 1 lc) (k' := 0) (fv' := .slice ma 0 mc) HB3.out (g := g + 1) (by rw [HG.out]; omega)
        exact ⟨⟨_, by rw [H2.out], by rw [H1.out]; exact (TyVN.set6 HV.out (Or.inr rfl)).mono fun _ _ h => Or.inl h⟩, hbw⟩
end Go.Proofs.Ytgjkobkcmgliaaa
