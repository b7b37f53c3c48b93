import Derived.Test.YtgjkobkcmgliaaaNwN
import Derived.Test.YtgjkobkcmgliaaaTyCl
namespace Go.Proofs.Ytgjkobkcmgliaaa
open Go.RowKit

/-- the tags of a type -/
def tagsT (t : Ty) : Int := if t.all then 255 else t.flat + (if t.pair ≠ 0 then 64 else 0) + (if t.fn ≠ 0 then 128 else 0)
def allT : Ty := .mk false 63 1 [tyAll, tyAll] 2 []
/-- what is left of a type that is not all -/
def cutT (t : Ty) (g : Nat) : Ty := .mk t.all ((t.flat.toNat &&& g : Nat) : Int) (if g &&& 64 = 0 then 0 else t.pair) (if g &&& 64 = 0 then [] else t.pairs) (if g &&& 128 = 0 then 0 else t.fn) (if g &&& 128 = 0 then [] else t.funs)
def keepT (t : Ty) (g : Nat) : Ty := if t.all && decide (g = 255) then tyAll else if t.all then cutT allT g else cutT t g
theorem all_eqT {t : Ty} (h : HdT t) (ha : t.all = true) : t = tyAll := by
  obtain ⟨h1, h2, h3, h4, h5, h6, h7, h8, h9, h10⟩ := headH h
  obtain ⟨f0, p0, n0⟩ := h7 ha
  have e1 : t.pairs = [] := List.length_eq_zero_iff.1 (by rw [p0] at h8; simp at h8; simpa using h8)
  have e2 : t.funs = [] := List.length_eq_zero_iff.1 (h9 (by rw [n0]; decide))
  rw [t.eta, ha, f0, p0, n0, e1, e2]; rfl
theorem hd_lens {t : Ty} (h : HdT t) : t.pairs.length ≤ 9 ∧ t.funs.length ≤ 9 := by
  obtain ⟨h1, h2, h3, h4, h5, h6, h7, h8, h9, h10⟩ := headH h
  refine ⟨?_, ?_⟩
  · by_cases p1 : t.pair = 1
    · rw [if_pos p1] at h8; omega
    · rw [if_neg p1] at h8
      by_cases p2 : t.pair = 2
      · rw [if_pos p2] at h8; omega
      · rw [if_neg p2] at h8; omega
  · by_cases e : t.fn = 1
    · have := h10 e; omega
    · have := h9 e; omega
/-- a type is laid in the cell of the result -/
theorem ty_done {N : Nat → Prop} {w wr : World} {r : Nat} {a : Bool} {f p k : Int} {pv fv : Value} {t : Ty} (hr : w.heap.size ≤ r) (_hN : ∀ b, N b → b < w.heap.size) (hv : TyVN (fun b => N b ∨ b = r) wr (.agg #[.bool a, .int .i64 f, .int .i64 p, pv, .int .i64 k, fv]) t) (hb : Below w.heap.size w wr) :
    TyPost N t w (.returned (.agg #[.bool a, .int .i64 f, .int .i64 p, pv, .int .i64 k, fv])) ((((((wr.setCell ⟨r, 0, none⟩ (.bool a)).setCell ⟨r, 1, none⟩ (.int .i64 f)).setCell ⟨r, 2, none⟩ (.int .i64 p)).setCell ⟨r, 3, none⟩ pv).setCell ⟨r, 4, none⟩ (.int .i64 k)).setCell ⟨r, 5, none⟩ fv) := by
  refine ⟨⟨_, rfl, ?_⟩, Go.Proofs.Ytgjkobkcmgliaaa.Below.set6 hb hr⟩
  have h := hv.set6 (g := r) (a' := a) (f' := f) (p' := p) (pv' := pv) (k' := k) (fv' := fv) (.inr rfl)
  exact h.mono fun b _ hn => .inl hn

set_option maxRecDepth 100000 in
set_option maxHeartbeats 16000000 in
theorem ownrows_p (N : Nat → Prop) (t : Ty) (v : Value) (w : World) (hN : ∀ b, N b → b < w.heap.size) (hl1 : t.pairs.length ≤ 1000) (hl2 : t.funs.length ≤ 1000) (hv : TyVN N w v t) :
    Calls Try.prog 52 #[v] w (TyPost N t w) := by
  obtain ⟨xpa, xpc, xfa, xfc, rfl, hxp, hxf⟩ := hv.form
  obtain ⟨xnp, hxnp⟩ : ∃ n, n = t.pairs.length := ⟨_, rfl⟩
  obtain ⟨xnf, hxnf⟩ : ∃ n, n = t.funs.length := ⟨_, rfl⟩
  obtain ⟨xa, hxa⟩ : ∃ a, a = t.all := ⟨_, rfl⟩
  obtain ⟨xf, hxfl⟩ : ∃ a, a = t.flat := ⟨_, rfl⟩
  obtain ⟨xp, hxpr⟩ : ∃ a, a = t.pair := ⟨_, rfl⟩
  obtain ⟨xn, hxfn⟩ : ∃ a, a = t.fn := ⟨_, rfl⟩
  rw [← hxnp, ← hxnf, ← hxa, ← hxfl, ← hxpr, ← hxfn] at hv ⊢
  rw [← hxnp] at hxp
  rw [← hxnf] at hxf
  obtain ⟨W, hW⟩ : ∃ W, W = (w.alloc (.cells #[.bool xa, .int .i64 xf, .int .i64 xp, .slice xpa xnp xpc, .int .i64 xn, .slice xfa xnf xfc] 49)).alloc (.cells #[.bool false, .int .i64 0, .int .i64 0, .slice none 0 0, .int .i64 0, .slice none 0 0] 49) := ⟨_, rfl⟩
  have HBX := Lib.hid (show BoxAt W w.heap.size xa xf xp (.slice xpa xnp xpc) xn (.slice xfa xnf xfc) by rw [hW]; exact (BoxAt.made _ _ _ _ _ _ _).keep ((Below.refl _ _).alloc (Nat.le_refl _) _))
  have HBR := Lib.hid (show BoxAt W (w.heap.size + 1) false 0 0 (.slice none 0 0) 0 (.slice none 0 0) by rw [hW]; have := BoxAt.made (w.alloc (.cells #[.bool xa, .int .i64 xf, .int .i64 xp, .slice xpa xnp xpc, .int .i64 xn, .slice xfa xnf xfc] 49)) false 0 0 (.slice none 0 0) 0 (.slice none 0 0); rw [size_alloc] at this; exact this)
  have hbl : Below w.heap.size w W := by rw [hW]; exact ((Below.refl _ _).alloc (Nat.le_refl _) _).alloc (by simp) _
  have HSZ := Lib.hid (show W.heap.size = w.heap.size + 1 + 1 by rw [hW]; simp)
  obtain ⟨M, hM⟩ : ∃ M : Nat → Prop, M = fun b => N b ∨ b = w.heap.size ∨ b = w.heap.size + 1 := ⟨_, rfl⟩
  have HMW := Lib.hid (show ∀ b, M b → b < W.heap.size by rw [hM]; intro b hb; rw [HSZ.out]; rcases hb with h | h | h; (have := hN b h; omega); omega; omega)
  have HP := Lib.hid (show TyS W (Lo M W) (.slice xpa xnp xpc) t.pairs from TySN.later hxp hbl fun b hb => by rw [hM] at hb; rcases hb with h | h | h; exact .inl h; exact .inr (by omega); exact .inr (by omega))
  have HF := Lib.hid (show TyS W (Lo M W) (.slice xfa xnf xfc) t.funs from TySN.later hxf hbl fun b hb => by rw [hM] at hb; rcases hb with h | h | h; exact .inl h; exact .inr (by omega); exact .inr (by omega))
  have HME := Lib.hid hM
  have HNN := Lib.hid hN
  have HL := Lib.hid hbl
  have HL1 := Lib.hid hl1
  have HL2 := Lib.hid hl2
  have HT := Lib.hid (show (t.all = xa ∧ t.flat = xf ∧ t.pair = xp ∧ t.fn = xn) ∧ xnp = t.pairs.length ∧ xnf = t.funs.length from ⟨⟨hxa.symm, hxfl.symm, hxpr.symm, hxfn.symm⟩, hxnp, hxnf⟩)
  have HW := Lib.hid hW
  clear hv hxp hxf hxnp hxnf hxa hxfl hxpr hxfn hW hbl hM hN hl1 hl2
  go_enter Try.func52, Try.ntmps52
  go_upto_region 1 with fail
  rw [← HW.out]
  have BC := Lib.hid (show Below W.heap.size W W.drew from (Below.refl _ _).drew)
  (try dsimp only [List.append])
  refine wp_region_noPanic ?_
  refine wp_region_held_drew (S := (fun _ => True)) (by kernel_rfl) (by (try dsimp only); all_goals exact trivial) (fun hHeld => ?_)
  refine' tk_any 0 3 (v := _) ?hi20001 ?hd20001 (by kernel_rfl) (by kernel_rfl) (by kernel_rfl) (fun _ _ _ h => h) ?hy20001 hHeld ?hr20001
  case hi20001 => (simp only [List.getElem?_toArray, List.getElem?_cons_zero]; rfl)
  case hd20001 => rfl
  case hy20001 =>
    refine' Or.inl ⟨?hw20001, ?hx20001⟩
    case hw20001 => rfl
    case hx20001 => (intro w hSw; (try dsimp only at hSw); go_simp; (try with_reducible rfl))
  (try simp only [Act.put, List.setIfInBounds_toArray, List.set_cons_zero, List.set_cons_succ])
  refine' tk_any 3 6 (v := _) ?hi20002 ?hd20002 (by kernel_rfl) (by kernel_rfl) (by kernel_rfl) (fun _ _ _ h => h) ?hy20002 hHeld ?hr20002
  case hi20002 => (simp only [List.getElem?_toArray, List.getElem?_cons_succ, List.getElem?_cons_zero]; rfl)
  case hd20002 => rfl
  case hy20002 =>
    refine' Or.inl ⟨?hw20002, ?hx20002⟩
    case hw20002 => rfl
    case hx20002 => (intro w hSw; (try dsimp only at hSw); go_simp; (try with_reducible rfl))
  (try simp only [Act.put, List.setIfInBounds_toArray, List.set_cons_zero, List.set_cons_succ])
  have l3 := (HBX.out.keep BC.out).c3
  have l5 := (HBX.out.keep BC.out).c5
  refine' tk_two 1 4 ?hi20023 ?hj20023 (by kernel_rfl) ?ha20023 ?hb20023
  case hi20023 => (simp only [List.getElem?_toArray, List.getElem?_cons_succ, List.getElem?_cons_zero]; rfl)
  case hj20023 => (simp only [List.getElem?_toArray, List.getElem?_cons_succ, List.getElem?_cons_zero]; rfl)
  case ha20023 =>
    intro K hK
    go_simp
    clear hHeld
    refine hK.out _ _ (by (try dsimp only); all_goals exact trivial) (fun hHeld => ?_)
    clear hK K
    (try simp only [Act.put, List.setIfInBounds_toArray, List.set_cons_zero, List.set_cons_succ])
    clear l3 l5
    have l5 := (HBX.out.keep BC.out).c5
    refine' tk_two 2 4 ?hi20015 ?hj20015 (by kernel_rfl) ?ha20015 ?hb20015
    case hi20015 => (simp only [List.getElem?_toArray, List.getElem?_cons_succ, List.getElem?_cons_zero]; rfl)
    case hj20015 => (simp only [List.getElem?_toArray, List.getElem?_cons_succ, List.getElem?_cons_zero]; rfl)
    case ha20015 =>
      intro K hK
      go_simp
      go_at_call 70
      refine (clone_any M t.pairs _ _ (fun b hb => Nat.lt_of_lt_of_le (HMW.out b hb) BC.out.size) (TySN.below HP.out BC.out) (by have := HL1.out; omega)).mono ?_
      rintro e y2 ⟨⟨v, rfl, hf⟩, hb⟩
      obtain ⟨pa, pc, rfl⟩ := hf.val
      rw [← HT.out.2.1] at hf ⊢
      have HCp := Lib.hid hf
      replace BC := Lib.hid (BC.out.trans (hb.mono BC.out.size))
      clear hb hf
      go_wp2_with fail
      clear hHeld
      refine hK.out _ _ (by (try dsimp only); all_goals exact trivial) (fun hHeld => ?_)
      clear hK K
      (try simp only [Act.put, List.setIfInBounds_toArray, List.set_cons_zero, List.set_cons_succ])
      clear l5
      have l5 := (HBX.out.keep BC.out).c5
      refine' tk_call 4 ?hi20003 (by kernel_rfl) ?hr20003
      case hi20003 => (simp only [List.getElem?_toArray, List.getElem?_cons_succ, List.getElem?_cons_zero]; rfl)
      intro K hK
      go_simp
      clear hHeld
      refine hK.out _ _ (by (try dsimp only); all_goals exact trivial) (fun hHeld => ?_)
      clear hK K
      (try simp only [Act.put, List.setIfInBounds_toArray, List.set_cons_zero, List.set_cons_succ])
      clear l5
      refine' tk_any 6 9 (v := _) ?hi20004 ?hd20004 (by kernel_rfl) (by kernel_rfl) (by kernel_rfl) (fun _ _ _ h => h) ?hy20004 hHeld ?hr20004
      case hi20004 => (simp only [List.getElem?_toArray, List.getElem?_cons_succ, List.getElem?_cons_zero]; rfl)
      case hd20004 => rfl
      case hy20004 =>
        refine' Or.inl ⟨?hw20004, ?hx20004⟩
        case hw20004 => rfl
        case hx20004 => (intro w hSw; (try dsimp only at hSw); go_simp; (try with_reducible rfl))
      (try simp only [Act.put, List.setIfInBounds_toArray, List.set_cons_zero, List.set_cons_succ])
      refine' tk_call 5 ?hi20005 (by kernel_rfl) ?hr20005
      case hi20005 => (simp only [List.getElem?_toArray, List.getElem?_cons_succ, List.getElem?_cons_zero]; rfl)
      intro K hK
      go_simp
      go_at_call 70
      refine (clone_any M t.funs _ _ (fun b hb => Nat.lt_of_lt_of_le (HMW.out b hb) BC.out.size) (TySN.below HF.out BC.out) (by have := HL2.out; omega)).mono ?_
      rintro e y3 ⟨⟨v, rfl, hf⟩, hb⟩
      obtain ⟨fa, fc, rfl⟩ := hf.val
      replace HCp := Lib.hid (TySN.below HCp.out hb)
      rw [← HT.out.2.2] at hf ⊢
      have HCf := Lib.hid hf
      replace BC := Lib.hid (BC.out.trans (hb.mono BC.out.size))
      clear hb hf
      go_wp2_with fail
      clear hHeld
      refine hK.out _ _ (by (try dsimp only); all_goals exact trivial) (fun hHeld => ?_)
      clear hK K
      (try simp only [Act.put, List.setIfInBounds_toArray, List.set_cons_zero, List.set_cons_succ])
      have b9 := HBX.out.keep BC.out
      have m3 := b9.c3
      have n3 := b9.fr 3
      refine' tk_call 7 ?hi20006 (by kernel_rfl) ?hr20006
      case hi20006 => (simp only [List.getElem?_toArray, List.getElem?_cons_succ, List.getElem?_cons_zero]; rfl)
      intro K hK
      go_simp
      clear hHeld
      refine hK.out _ _ (by (try dsimp only); all_goals exact trivial) (fun hHeld => ?_)
      clear hK K
      (try simp only [Act.put, List.setIfInBounds_toArray, List.set_cons_zero, List.set_cons_succ])
      clear m3 n3
      refine' tk_any 8 10 (v := _) ?hi20007 ?hd20007 (by kernel_rfl) (by kernel_rfl) (by kernel_rfl) (fun _ _ _ h => h) ?hy20007 hHeld ?hr20007
      case hi20007 => (simp only [List.getElem?_toArray, List.getElem?_cons_succ, List.getElem?_cons_zero]; rfl)
      case hd20007 => rfl
      case hy20007 =>
        refine' Or.inl ⟨?hw20007, ?hx20007⟩
        case hw20007 => rfl
        case hx20007 => (intro w hSw; (try dsimp only at hSw); go_simp; (try with_reducible rfl))
      (try simp only [Act.put, List.setIfInBounds_toArray, List.set_cons_zero, List.set_cons_succ])
      have m5 := (b9.s3 (pv' := .slice pa xnp pc)).c5
      have n5 := (b9.s3 (pv' := .slice pa xnp pc)).fr 5
      refine' tk_call 9 ?hi20008 (by kernel_rfl) ?hr20008
      case hi20008 => (simp only [List.getElem?_toArray, List.getElem?_cons_succ, List.getElem?_cons_zero]; rfl)
      intro K hK
      go_simp
      clear hHeld
      refine hK.out _ _ (by (try dsimp only); all_goals exact trivial) (fun hHeld => ?_)
      clear hK K
      (try simp only [Act.put, List.setIfInBounds_toArray, List.set_cons_zero, List.set_cons_succ])
      clear m5 n5
      refine wpAnyH_done (by kernel_rfl) ?_ _
      refine NoPanic.normal ?_
      have HBB := Lib.hid ((b9.s3 (pv' := .slice pa xnp pc)).s5 (fv' := .slice fa xnf fc))
      have HRR := Lib.hid (((HBR.out.keep BC.out).o (m := w.heap.size) (i := 3) (x := .slice pa xnp pc) (by omega)).o (m := w.heap.size) (i := 5) (x := .slice fa xnf fc) (by omega))
      have HVV := Lib.hid (TyVN.mk (a := xa) (f := xf) (p := xp) (g := xn) (TySN.set (TySN.set HCp.out ⟨w.heap.size, 3, none⟩ (by rw [HME.out]; exact .inr (.inl rfl)) (.slice pa xnp pc)) ⟨w.heap.size, 5, none⟩ (by rw [HME.out]; exact .inr (.inl rfl)) (.slice fa xnf fc)) (TySN.set (TySN.set HCf.out ⟨w.heap.size, 3, none⟩ (by rw [HME.out]; exact .inr (.inl rfl)) (.slice pa xnp pc)) ⟨w.heap.size, 5, none⟩ (by rw [HME.out]; exact .inr (.inl rfl)) (.slice fa xnf fc)))
      have HBW := Lib.hid (((HL.out.trans (BC.out.mono HL.out.size)).setCell (p := ⟨w.heap.size, 3, none⟩) (Nat.le_refl _) (.slice pa xnp pc)).setCell (p := ⟨w.heap.size, 5, none⟩) (Nat.le_refl _) (.slice fa xnf fc))
      clear b9
      go_upto_region 2 with fail
      generalize hwf : ((y3.setCell ⟨w.heap.size, 3, none⟩ (.slice pa xnp pc)).setCell ⟨w.heap.size, 5, none⟩ (.slice fa xnf fc)) = wf at HBB HRR HVV HBW ⊢
      have d0 := HBB.out.c0
      have d1 := HBB.out.c1
      have d2 := HBB.out.c2
      have d3 := HBB.out.c3
      have d4 := HBB.out.c4
      have d5 := HBB.out.c5
      have r0 := HRR.out.c0
      have r1 := HRR.out.c1
      have r2 := HRR.out.c2
      have r3 := HRR.out.c3
      have r4 := HRR.out.c4
      have r5 := HRR.out.c5
      have q0 := HRR.out.fr 0
      have q1 := HRR.out.fr 1
      have q2 := HRR.out.fr 2
      have q3 := HRR.out.fr 3
      have q4 := HRR.out.fr 4
      have q5 := HRR.out.fr 5
      clear hwf
      go_wp2
      refine bodyPost_ret (v := .agg #[.bool xa, .int .i64 xf, .int .i64 xp, .slice pa xnp pc, .int .i64 xn, .slice fa xnf fc]) ?_ ?_ ?_
      · simp [results, Try.results52, go_sem, r0, r1, r2, r3, r4, r5]
      · rfl
      · have e : t = .mk xa xf xp t.pairs xn t.funs := by have h := HT.out; rw [t.eta, h.1.1, h.1.2.1, h.1.2.2.1, h.1.2.2.2]; rfl
        rw [e]
        exact ty_done (by omega) HNN.out (HVV.out.mono fun b _ hb => by rw [HME.out]; rcases hb with h | h; exact .inl h; exact .inr (.inr h)) HBW.out
    case hb20015 =>
      intro K hK
      go_simp
      clear hHeld
      refine hK.out _ _ (by (try dsimp only); all_goals exact trivial) (fun hHeld => ?_)
      clear hK K
      (try simp only [Act.put, List.setIfInBounds_toArray, List.set_cons_zero, List.set_cons_succ])
      clear l5
      refine' tk_call 2 ?hi20009 (by kernel_rfl) ?hr20009
      case hi20009 => (simp only [List.getElem?_toArray, List.getElem?_cons_succ, List.getElem?_cons_zero]; rfl)
      intro K hK
      go_simp
      go_at_call 70
      refine (clone_any M t.pairs _ _ (fun b hb => Nat.lt_of_lt_of_le (HMW.out b hb) BC.out.size) (TySN.below HP.out BC.out) (by have := HL1.out; omega)).mono ?_
      rintro e y4 ⟨⟨v, rfl, hf⟩, hb⟩
      obtain ⟨pa, pc, rfl⟩ := hf.val
      rw [← HT.out.2.1] at hf ⊢
      have HCp := Lib.hid hf
      replace BC := Lib.hid (BC.out.trans (hb.mono BC.out.size))
      clear hb hf
      go_wp2_with fail
      clear hHeld
      refine hK.out _ _ (by (try dsimp only); all_goals exact trivial) (fun hHeld => ?_)
      clear hK K
      (try simp only [Act.put, List.setIfInBounds_toArray, List.set_cons_zero, List.set_cons_succ])
      refine' tk_any 6 9 (v := _) ?hi20010 ?hd20010 (by kernel_rfl) (by kernel_rfl) (by kernel_rfl) (fun _ _ _ h => h) ?hy20010 hHeld ?hr20010
      case hi20010 => (simp only [List.getElem?_toArray, List.getElem?_cons_succ, List.getElem?_cons_zero]; rfl)
      case hd20010 => rfl
      case hy20010 =>
        refine' Or.inl ⟨?hw20010, ?hx20010⟩
        case hw20010 => rfl
        case hx20010 => (intro w hSw; (try dsimp only at hSw); go_simp; (try with_reducible rfl))
      (try simp only [Act.put, List.setIfInBounds_toArray, List.set_cons_zero, List.set_cons_succ])
      refine' tk_call 5 ?hi20011 (by kernel_rfl) ?hr20011
      case hi20011 => (simp only [List.getElem?_toArray, List.getElem?_cons_succ, List.getElem?_cons_zero]; rfl)
      intro K hK
      go_simp
      go_at_call 70
      refine (clone_any M t.funs _ _ (fun b hb => Nat.lt_of_lt_of_le (HMW.out b hb) BC.out.size) (TySN.below HF.out BC.out) (by have := HL2.out; omega)).mono ?_
      rintro e y5 ⟨⟨v, rfl, hf⟩, hb⟩
      obtain ⟨fa, fc, rfl⟩ := hf.val
      replace HCp := Lib.hid (TySN.below HCp.out hb)
      rw [← HT.out.2.2] at hf ⊢
      have HCf := Lib.hid hf
      replace BC := Lib.hid (BC.out.trans (hb.mono BC.out.size))
      clear hb hf
      go_wp2_with fail
      clear hHeld
      refine hK.out _ _ (by (try dsimp only); all_goals exact trivial) (fun hHeld => ?_)
      clear hK K
      (try simp only [Act.put, List.setIfInBounds_toArray, List.set_cons_zero, List.set_cons_succ])
      have b9 := HBX.out.keep BC.out
      have m3 := b9.c3
      have n3 := b9.fr 3
      refine' tk_call 7 ?hi20012 (by kernel_rfl) ?hr20012
      case hi20012 => (simp only [List.getElem?_toArray, List.getElem?_cons_succ, List.getElem?_cons_zero]; rfl)
      intro K hK
      go_simp
      clear hHeld
      refine hK.out _ _ (by (try dsimp only); all_goals exact trivial) (fun hHeld => ?_)
      clear hK K
      (try simp only [Act.put, List.setIfInBounds_toArray, List.set_cons_zero, List.set_cons_succ])
      clear m3 n3
      refine' tk_any 8 10 (v := _) ?hi20013 ?hd20013 (by kernel_rfl) (by kernel_rfl) (by kernel_rfl) (fun _ _ _ h => h) ?hy20013 hHeld ?hr20013
      case hi20013 => (simp only [List.getElem?_toArray, List.getElem?_cons_succ, List.getElem?_cons_zero]; rfl)
      case hd20013 => rfl
      case hy20013 =>
        refine' Or.inl ⟨?hw20013, ?hx20013⟩
        case hw20013 => rfl
        case hx20013 => (intro w hSw; (try dsimp only at hSw); go_simp; (try with_reducible rfl))
      (try simp only [Act.put, List.setIfInBounds_toArray, List.set_cons_zero, List.set_cons_succ])
      have m5 := (b9.s3 (pv' := .slice pa xnp pc)).c5
      have n5 := (b9.s3 (pv' := .slice pa xnp pc)).fr 5
      refine' tk_call 9 ?hi20014 (by kernel_rfl) ?hr20014
      case hi20014 => (simp only [List.getElem?_toArray, List.getElem?_cons_succ, List.getElem?_cons_zero]; rfl)
      intro K hK
      go_simp
      clear hHeld
      refine hK.out _ _ (by (try dsimp only); all_goals exact trivial) (fun hHeld => ?_)
      clear hK K
      (try simp only [Act.put, List.setIfInBounds_toArray, List.set_cons_zero, List.set_cons_succ])
      clear m5 n5
      refine wpAnyH_done (by kernel_rfl) ?_ _
      refine NoPanic.normal ?_
      have HBB := Lib.hid ((b9.s3 (pv' := .slice pa xnp pc)).s5 (fv' := .slice fa xnf fc))
      have HRR := Lib.hid (((HBR.out.keep BC.out).o (m := w.heap.size) (i := 3) (x := .slice pa xnp pc) (by omega)).o (m := w.heap.size) (i := 5) (x := .slice fa xnf fc) (by omega))
      have HVV := Lib.hid (TyVN.mk (a := xa) (f := xf) (p := xp) (g := xn) (TySN.set (TySN.set HCp.out ⟨w.heap.size, 3, none⟩ (by rw [HME.out]; exact .inr (.inl rfl)) (.slice pa xnp pc)) ⟨w.heap.size, 5, none⟩ (by rw [HME.out]; exact .inr (.inl rfl)) (.slice fa xnf fc)) (TySN.set (TySN.set HCf.out ⟨w.heap.size, 3, none⟩ (by rw [HME.out]; exact .inr (.inl rfl)) (.slice pa xnp pc)) ⟨w.heap.size, 5, none⟩ (by rw [HME.out]; exact .inr (.inl rfl)) (.slice fa xnf fc)))
      have HBW := Lib.hid (((HL.out.trans (BC.out.mono HL.out.size)).setCell (p := ⟨w.heap.size, 3, none⟩) (Nat.le_refl _) (.slice pa xnp pc)).setCell (p := ⟨w.heap.size, 5, none⟩) (Nat.le_refl _) (.slice fa xnf fc))
      clear b9
      go_upto_region 2 with fail
      generalize hwf : ((y5.setCell ⟨w.heap.size, 3, none⟩ (.slice pa xnp pc)).setCell ⟨w.heap.size, 5, none⟩ (.slice fa xnf fc)) = wf at HBB HRR HVV HBW ⊢
      have d0 := HBB.out.c0
      have d1 := HBB.out.c1
      have d2 := HBB.out.c2
      have d3 := HBB.out.c3
      have d4 := HBB.out.c4
      have d5 := HBB.out.c5
      have r0 := HRR.out.c0
      have r1 := HRR.out.c1
      have r2 := HRR.out.c2
      have r3 := HRR.out.c3
      have r4 := HRR.out.c4
      have r5 := HRR.out.c5
      have q0 := HRR.out.fr 0
      have q1 := HRR.out.fr 1
      have q2 := HRR.out.fr 2
      have q3 := HRR.out.fr 3
      have q4 := HRR.out.fr 4
      have q5 := HRR.out.fr 5
      clear hwf
      go_wp2
      refine bodyPost_ret (v := .agg #[.bool xa, .int .i64 xf, .int .i64 xp, .slice pa xnp pc, .int .i64 xn, .slice fa xnf fc]) ?_ ?_ ?_
      · simp [results, Try.results52, go_sem, r0, r1, r2, r3, r4, r5]
      · rfl
      · have e : t = .mk xa xf xp t.pairs xn t.funs := by have h := HT.out; rw [t.eta, h.1.1, h.1.2.1, h.1.2.2.1, h.1.2.2.2]; rfl
        rw [e]
        exact ty_done (by omega) HNN.out (HVV.out.mono fun b _ hb => by rw [HME.out]; rcases hb with h | h; exact .inl h; exact .inr (.inr h)) HBW.out
  case hb20023 =>
    intro K hK
    go_simp
    clear hHeld
    refine hK.out _ _ (by (try dsimp only); all_goals exact trivial) (fun hHeld => ?_)
    clear hK K
    (try simp only [Act.put, List.setIfInBounds_toArray, List.set_cons_zero, List.set_cons_succ])
    clear l3 l5
    have l3 := (HBX.out.keep BC.out).c3
    refine' tk_call 1 ?hi20016 (by kernel_rfl) ?hr20016
    case hi20016 => (simp only [List.getElem?_toArray, List.getElem?_cons_succ, List.getElem?_cons_zero]; rfl)
    intro K hK
    go_simp
    clear hHeld
    refine hK.out _ _ (by (try dsimp only); all_goals exact trivial) (fun hHeld => ?_)
    clear hK K
    (try simp only [Act.put, List.setIfInBounds_toArray, List.set_cons_zero, List.set_cons_succ])
    clear l3
    refine' tk_call 2 ?hi20017 (by kernel_rfl) ?hr20017
    case hi20017 => (simp only [List.getElem?_toArray, List.getElem?_cons_succ, List.getElem?_cons_zero]; rfl)
    intro K hK
    go_simp
    go_at_call 70
    refine (clone_any M t.pairs _ _ (fun b hb => Nat.lt_of_lt_of_le (HMW.out b hb) BC.out.size) (TySN.below HP.out BC.out) (by have := HL1.out; omega)).mono ?_
    rintro e y6 ⟨⟨v, rfl, hf⟩, hb⟩
    obtain ⟨pa, pc, rfl⟩ := hf.val
    rw [← HT.out.2.1] at hf ⊢
    have HCp := Lib.hid hf
    replace BC := Lib.hid (BC.out.trans (hb.mono BC.out.size))
    clear hb hf
    go_wp2_with fail
    clear hHeld
    refine hK.out _ _ (by (try dsimp only); all_goals exact trivial) (fun hHeld => ?_)
    clear hK K
    (try simp only [Act.put, List.setIfInBounds_toArray, List.set_cons_zero, List.set_cons_succ])
    refine' tk_any 6 9 (v := _) ?hi20018 ?hd20018 (by kernel_rfl) (by kernel_rfl) (by kernel_rfl) (fun _ _ _ h => h) ?hy20018 hHeld ?hr20018
    case hi20018 => (simp only [List.getElem?_toArray, List.getElem?_cons_succ, List.getElem?_cons_zero]; rfl)
    case hd20018 => rfl
    case hy20018 =>
      refine' Or.inl ⟨?hw20018, ?hx20018⟩
      case hw20018 => rfl
      case hx20018 => (intro w hSw; (try dsimp only at hSw); go_simp; (try with_reducible rfl))
    (try simp only [Act.put, List.setIfInBounds_toArray, List.set_cons_zero, List.set_cons_succ])
    refine' tk_call 5 ?hi20019 (by kernel_rfl) ?hr20019
    case hi20019 => (simp only [List.getElem?_toArray, List.getElem?_cons_succ, List.getElem?_cons_zero]; rfl)
    intro K hK
    go_simp
    go_at_call 70
    refine (clone_any M t.funs _ _ (fun b hb => Nat.lt_of_lt_of_le (HMW.out b hb) BC.out.size) (TySN.below HF.out BC.out) (by have := HL2.out; omega)).mono ?_
    rintro e y7 ⟨⟨v, rfl, hf⟩, hb⟩
    obtain ⟨fa, fc, rfl⟩ := hf.val
    replace HCp := Lib.hid (TySN.below HCp.out hb)
    rw [← HT.out.2.2] at hf ⊢
    have HCf := Lib.hid hf
    replace BC := Lib.hid (BC.out.trans (hb.mono BC.out.size))
    clear hb hf
    go_wp2_with fail
    clear hHeld
    refine hK.out _ _ (by (try dsimp only); all_goals exact trivial) (fun hHeld => ?_)
    clear hK K
    (try simp only [Act.put, List.setIfInBounds_toArray, List.set_cons_zero, List.set_cons_succ])
    have b9 := HBX.out.keep BC.out
    have m3 := b9.c3
    have n3 := b9.fr 3
    refine' tk_call 7 ?hi20020 (by kernel_rfl) ?hr20020
    case hi20020 => (simp only [List.getElem?_toArray, List.getElem?_cons_succ, List.getElem?_cons_zero]; rfl)
    intro K hK
    go_simp
    clear hHeld
    refine hK.out _ _ (by (try dsimp only); all_goals exact trivial) (fun hHeld => ?_)
    clear hK K
    (try simp only [Act.put, List.setIfInBounds_toArray, List.set_cons_zero, List.set_cons_succ])
    clear m3 n3
    refine' tk_any 8 10 (v := _) ?hi20021 ?hd20021 (by kernel_rfl) (by kernel_rfl) (by kernel_rfl) (fun _ _ _ h => h) ?hy20021 hHeld ?hr20021
    case hi20021 => (simp only [List.getElem?_toArray, List.getElem?_cons_succ, List.getElem?_cons_zero]; rfl)
    case hd20021 => rfl
    case hy20021 =>
      refine' Or.inl ⟨?hw20021, ?hx20021⟩
      case hw20021 => rfl
      case hx20021 => (intro w hSw; (try dsimp only at hSw); go_simp; (try with_reducible rfl))
    (try simp only [Act.put, List.setIfInBounds_toArray, List.set_cons_zero, List.set_cons_succ])
    have m5 := (b9.s3 (pv' := .slice pa xnp pc)).c5
    have n5 := (b9.s3 (pv' := .slice pa xnp pc)).fr 5
    refine' tk_call 9 ?hi20022 (by kernel_rfl) ?hr20022
    case hi20022 => (simp only [List.getElem?_toArray, List.getElem?_cons_succ, List.getElem?_cons_zero]; rfl)
    intro K hK
    go_simp
    clear hHeld
    refine hK.out _ _ (by (try dsimp only); all_goals exact trivial) (fun hHeld => ?_)
    clear hK K
    (try simp only [Act.put, List.setIfInBounds_toArray, List.set_cons_zero, List.set_cons_succ])
    clear m5 n5
    refine wpAnyH_done (by kernel_rfl) ?_ _
    refine NoPanic.normal ?_
    have HBB := Lib.hid ((b9.s3 (pv' := .slice pa xnp pc)).s5 (fv' := .slice fa xnf fc))
    have HRR := Lib.hid (((HBR.out.keep BC.out).o (m := w.heap.size) (i := 3) (x := .slice pa xnp pc) (by omega)).o (m := w.heap.size) (i := 5) (x := .slice fa xnf fc) (by omega))
    have HVV := Lib.hid (TyVN.mk (a := xa) (f := xf) (p := xp) (g := xn) (TySN.set (TySN.set HCp.out ⟨w.heap.size, 3, none⟩ (by rw [HME.out]; exact .inr (.inl rfl)) (.slice pa xnp pc)) ⟨w.heap.size, 5, none⟩ (by rw [HME.out]; exact .inr (.inl rfl)) (.slice fa xnf fc)) (TySN.set (TySN.set HCf.out ⟨w.heap.size, 3, none⟩ (by rw [HME.out]; exact .inr (.inl rfl)) (.slice pa xnp pc)) ⟨w.heap.size, 5, none⟩ (by rw [HME.out]; exact .inr (.inl rfl)) (.slice fa xnf fc)))
    have HBW := Lib.hid (((HL.out.trans (BC.out.mono HL.out.size)).setCell (p := ⟨w.heap.size, 3, none⟩) (Nat.le_refl _) (.slice pa xnp pc)).setCell (p := ⟨w.heap.size, 5, none⟩) (Nat.le_refl _) (.slice fa xnf fc))
    clear b9
    go_upto_region 2 with fail
    generalize hwf : ((y7.setCell ⟨w.heap.size, 3, none⟩ (.slice pa xnp pc)).setCell ⟨w.heap.size, 5, none⟩ (.slice fa xnf fc)) = wf at HBB HRR HVV HBW ⊢
    have d0 := HBB.out.c0
    have d1 := HBB.out.c1
    have d2 := HBB.out.c2
    have d3 := HBB.out.c3
    have d4 := HBB.out.c4
    have d5 := HBB.out.c5
    have r0 := HRR.out.c0
    have r1 := HRR.out.c1
    have r2 := HRR.out.c2
    have r3 := HRR.out.c3
    have r4 := HRR.out.c4
    have r5 := HRR.out.c5
    have q0 := HRR.out.fr 0
    have q1 := HRR.out.fr 1
    have q2 := HRR.out.fr 2
    have q3 := HRR.out.fr 3
    have q4 := HRR.out.fr 4
    have q5 := HRR.out.fr 5
    clear hwf
    go_wp2
    refine bodyPost_ret (v := .agg #[.bool xa, .int .i64 xf, .int .i64 xp, .slice pa xnp pc, .int .i64 xn, .slice fa xnf fc]) ?_ ?_ ?_
    · simp [results, Try.results52, go_sem, r0, r1, r2, r3, r4, r5]
    · rfl
    · have e : t = .mk xa xf xp t.pairs xn t.funs := by have h := HT.out; rw [t.eta, h.1.1, h.1.2.1, h.1.2.2.1, h.1.2.2.2]; rfl
      rw [e]
      exact ty_done (by omega) HNN.out (HVV.out.mono fun b _ hb => by rw [HME.out]; rcases hb with h | h; exact .inl h; exact .inr (.inr h)) HBW.out

set_option maxRecDepth 100000 in
set_option maxHeartbeats 16000000 in
theorem allparts_p (N : Nat → Prop) (w : World) (hN : ∀ b, N b → b < w.heap.size) : Calls Try.prog 53 #[] w (TyPost N allT w) := by
  obtain ⟨W, hW⟩ : ∃ W, W = w.alloc (.cells #[.bool false, .int .i64 0, .int .i64 0, .slice none 0 0, .int .i64 0, .slice none 0 0] 49) := ⟨_, rfl⟩
  have HBR := Lib.hid (show BoxAt W w.heap.size false 0 0 (.slice none 0 0) 0 (.slice none 0 0) by rw [hW]; exact BoxAt.made _ _ _ _ _ _ _)
  have hbl : Below w.heap.size w W := by rw [hW]; exact (Below.refl _ _).alloc (Nat.le_refl _) _
  have HSZ := Lib.hid (show W.heap.size = w.heap.size + 1 by rw [hW]; simp)
  have HNN := Lib.hid hN
  have HL := Lib.hid hbl
  have HW := Lib.hid hW
  clear hbl hN hW
  go_enter Try.func53, Try.ntmps53
  go_wp2_with fail
  rw [← HW.out]
  refine (all_p W).mono ?_
  rintro e w1 ⟨rfl, hb1⟩
  have HB1 := Lib.hid (show Below W.heap.size W w1 from hb1)
  clear hb1 HW
  go_wp2_with fail
  refine (all_p w1).mono ?_
  rintro e w2 ⟨rfl, hb2⟩
  have HB2 := Lib.hid (HB1.out.trans (hb2.mono HB1.out.size))
  clear hb2 HB1
  go_wp2_with fail
  refine (pair_p (fun b => N b ∨ b = w.heap.size) tyAll tyAll _ _ w2 (fun b hb => by have h1 := HB2.out.size; have h2 := HSZ.out; rcases hb with h | h; (have := HNN.out b h; omega); omega) (tyAll_v _ w2) (tyAll_v _ w2)).mono ?_
  rintro e w3 ⟨⟨v, rfl, hv⟩, hb3⟩
  obtain ⟨xpa, xpc, xfa, xfc, rfl, hxp, hxf⟩ := hv.form
  have HB3 := Lib.hid (HB2.out.trans (hb3.mono HB2.out.size))
  obtain ⟨ps, hps⟩ : ∃ l, l = [tyAll, tyAll] := ⟨_, rfl⟩
  have e1 : (Ty.mk false 0 1 [tyAll, tyAll] 0 []).pairs = ps := hps.symm
  have e2 : ps.length = 2 := by rw [hps]; rfl
  rw [e1, e2] at hxp ⊢
  have HXP := Lib.hid hxp
  have HXF := Lib.hid (show TyS w3 (Lo (fun b => N b ∨ b = w.heap.size) w3) (.slice xfa 0 xfc) [] from hxf)
  have HPS := Lib.hid hps
  have HBRX := Lib.hid (HBR.out.keep HB3.out)
  clear hb3 hv hxp hxf hps e1 e2 HB2
  dsimp only [Ty.all, Ty.flat, Ty.pair, Ty.fn, Ty.funs, List.length_nil]
  go_upto_region 3 with fail
  obtain ⟨wf, hwf⟩ : ∃ wf, wf = w3.alloc (.cells #[.bool false, .int .i64 63, .int .i64 1, .slice xpa 2 xpc, .int .i64 2, .slice xfa 0 xfc] 49) := ⟨_, rfl⟩
  rw [← hwf]
  have hb : Below w3.heap.size w3 wf := by rw [hwf]; exact (Below.refl _ _).alloc (Nat.le_refl _) _
  have hbx : BoxAt wf w3.heap.size false 63 1 (.slice xpa 2 xpc) 2 (.slice xfa 0 xfc) := by rw [hwf]; exact BoxAt.made _ _ _ _ _ _ _
  have hrr := HBRX.out.keep hb
  have HV := Lib.hid (show TyVN (fun b => N b ∨ b = w.heap.size) wf (.agg #[.bool false, .int .i64 63, .int .i64 1, .slice xpa 2 xpc, .int .i64 2, .slice xfa 0 xfc]) allT from TyVN.mk (by have h := TySN.below HXP.out hb; rw [HPS.out] at h; exact h) (TySN.below HXF.out hb))
  have HBW := Lib.hid (HL.out.trans ((HB3.out.trans (hb.mono HB3.out.size)).mono HL.out.size))
  have d0 := hbx.c0
  have d1 := hbx.c1
  have d2 := hbx.c2
  have d3 := hbx.c3
  have d4 := hbx.c4
  have d5 := hbx.c5
  have r0 := hrr.c0
  have q0 := hrr.fr 0
  have r1 := hrr.c1
  have q1 := hrr.fr 1
  have r2 := hrr.c2
  have q2 := hrr.fr 2
  have r3 := hrr.c3
  have q3 := hrr.fr 3
  have r4 := hrr.c4
  have q4 := hrr.fr 4
  have r5 := hrr.c5
  have q5 := hrr.fr 5
  clear hwf hb hbx hrr
  go_wp2
  refine bodyPost_ret (v := .agg #[.bool false, .int .i64 63, .int .i64 1, .slice xpa 2 xpc, .int .i64 2, .slice xfa 0 xfc]) ?_ ?_ ?_
  · simp [results, Try.results53, go_sem, r0, r1, r2, r3, r4, r5]
  · rfl
  · exact ty_done (Nat.le_refl _) HNN.out HV.out HBW.out

set_option maxRecDepth 100000 in
set_option maxHeartbeats 32000000 in
theorem keep_p (N : Nat → Prop) (t : Ty) (g : Int) (v : Value) (w : World) (hN : ∀ b, N b → b < w.heap.size) (hok : HdT t) (hv : TyVN N w v t) :
    Calls Try.prog 24 #[v, .int .i64 g] w (TyPost N (keepT t (lowN g)) w) := by
  obtain ⟨pa, pc, fa, fc, rfl, hp, hf⟩ := hv.form
  obtain ⟨pn, hpn⟩ : ∃ n, n = t.pairs.length := ⟨_, rfl⟩
  obtain ⟨fn, hfn⟩ : ∃ n, n = t.funs.length := ⟨_, rfl⟩
  obtain ⟨a, ha⟩ : ∃ a, a = t.all := ⟨_, rfl⟩
  obtain ⟨f, hfl⟩ : ∃ a, a = t.flat := ⟨_, rfl⟩
  obtain ⟨p, hpr⟩ : ∃ a, a = t.pair := ⟨_, rfl⟩
  obtain ⟨k, hkn⟩ : ∃ a, a = t.fn := ⟨_, rfl⟩
  rw [← hpn, ← hfn, ← ha, ← hfl, ← hpr, ← hkn] at hv ⊢
  rw [← hpn] at hp
  rw [← hfn] at hf
  have hlens := hd_lens hok
  have hhd := headH hok
  obtain ⟨gi, hgi⟩ : ∃ gi : Int, gi = (lowN g : Int) := ⟨_, rfl⟩
  have hg255 := i64_and255 g
  rw [← hgi] at hg255
  have HLOW := Lib.hid (show ∀ w, Calls Try.prog 54 #[.int .i64 g] w fun e w' => e = .returned (.int .i64 gi) ∧ w' = w from fun w => by rw [hgi]; exact low_any g w)
  have HK64 := Lib.hid (show bits .and .i64 gi 64 = ((lowN g &&& 64 : Nat) : Int) by rw [hgi]; exact i64_and (lowN_lt g) (y := 64) (by omega))
  have HK128 := Lib.hid (show bits .and .i64 gi 128 = ((lowN g &&& 128 : Nat) : Int) by rw [hgi]; exact i64_and (lowN_lt g) (y := 128) (by omega))
  obtain ⟨W, hW⟩ : ∃ W, W = (w.alloc (.cells #[.bool a, .int .i64 f, .int .i64 p, .slice pa pn pc, .int .i64 k, .slice fa fn fc] 49)).alloc (.cells #[.bool false, .int .i64 0, .int .i64 0, .slice none 0 0, .int .i64 0, .slice none 0 0] 49) := ⟨_, rfl⟩
  have HBX := Lib.hid (show BoxAt W w.heap.size a f p (.slice pa pn pc) k (.slice fa fn fc) by rw [hW]; exact (BoxAt.made _ _ _ _ _ _ _).keep ((Below.refl _ _).alloc (Nat.le_refl _) _))
  have HRR := Lib.hid (show BoxAt W (w.heap.size + 1) false 0 0 (.slice none 0 0) 0 (.slice none 0 0) by rw [hW]; have := BoxAt.made (w.alloc (.cells #[.bool a, .int .i64 f, .int .i64 p, .slice pa pn pc, .int .i64 k, .slice fa fn fc] 49)) false 0 0 (.slice none 0 0) 0 (.slice none 0 0); rw [size_alloc] at this; exact this)
  have hbl : Below w.heap.size w W := by rw [hW]; exact ((Below.refl _ _).alloc (Nat.le_refl _) _).alloc (by simp) _
  have HSZ := Lib.hid (show W.heap.size = w.heap.size + 1 + 1 by rw [hW]; simp)
  obtain ⟨M, hM⟩ : ∃ M : Nat → Prop, M = fun b => N b ∨ b = w.heap.size ∨ b = w.heap.size + 1 := ⟨_, rfl⟩
  have HMW := Lib.hid (show ∀ b, M b → b < w.heap.size + 1 + 1 by rw [hM]; intro b hb; rcases hb with h | h | h; (have := hN b h; omega); omega; omega)
  have HP := Lib.hid (show TyS W (Lo M W) (.slice pa pn pc) t.pairs from TySN.later hp hbl fun b hb => by rw [hM] at hb; rcases hb with h | h | h; exact .inl h; exact .inr (by omega); exact .inr (by omega))
  have HF := Lib.hid (show TyS W (Lo M W) (.slice fa fn fc) t.funs from TySN.later hf hbl fun b hb => by rw [hM] at hb; rcases hb with h | h | h; exact .inl h; exact .inr (by omega); exact .inr (by omega))
  have HME := Lib.hid hM
  have HNN := Lib.hid hN
  have HBW := Lib.hid hbl
  have HLEN := Lib.hid (show t.pairs.length ≤ 9 ∧ t.funs.length ≤ 9 from hlens)
  have HAL := Lib.hid (show a = true → t = tyAll by rw [ha]; exact all_eqT hok)
  have HOV := Lib.hid hv
  have HGI := Lib.hid hgi
  have HFR := Lib.hid (show 0 ≤ f ∧ f ≤ 63 by rw [hfl]; exact ⟨hhd.1, hhd.2.1⟩)
  have HTT := Lib.hid (show t.all = a ∧ t.flat = f ∧ t.pair = p ∧ t.fn = k from ⟨ha.symm, hfl.symm, hpr.symm, hkn.symm⟩)
  have HTN := Lib.hid (show pn = t.pairs.length ∧ fn = t.funs.length from ⟨hpn, hfn⟩)
  have HW := Lib.hid hW
  clear hv hp hf hpn hfn ha hfl hpr hkn hW hbl hM hN hok hlens hhd hgi
  go_enter Try.func24, Try.ntmps24
  cases a with
  | true =>
    by_cases h255 : gi = 255
    · have h2 : lowN g = 255 := by have := HGI.out; omega
      have hke : keepT t (lowN g) = tyAll := by
        unfold keepT; rw [HTT.out.1, h2]; rfl
      rw [hke]
      clear h2 hke
      subst h255
      go_wp2_with fail
      rw [← HW.out]
      refine (all_p W).mono ?_
      rintro e w1 ⟨rfl, hb1⟩
      have hr1 := HRR.out.keep hb1
      have r0 := hr1.c0
      have q0 := hr1.fr 0
      have r1 := hr1.c1
      have q1 := hr1.fr 1
      have r2 := hr1.c2
      have q2 := hr1.fr 2
      have r3 := hr1.c3
      have q3 := hr1.fr 3
      have r4 := hr1.c4
      have q4 := hr1.fr 4
      have r5 := hr1.c5
      have q5 := hr1.fr 5
      have HB1 := Lib.hid (HBW.out.trans (hb1.mono HBW.out.size))
      clear hr1 hb1 HW
      go_wp2
      refine bodyPost_ret (v := .agg #[.bool true, .int .i64 0, .int .i64 0, .slice none 0 0, .int .i64 0, .slice none 0 0]) ?_ ?_ ?_
      · simp [results, Try.results24, go_sem, r0, r1, r2, r3, r4, r5]
      · rfl
      · exact ty_done (by omega) HNN.out (tyAll_v _ _) HB1.out
    · have k255 : (gi == 255) = false := by simp [h255]
      have h2 : lowN g ≠ 255 := by have := HGI.out; omega
      have hke : keepT t (lowN g) = cutT allT (lowN g) := by
        unfold keepT; rw [HTT.out.1]; simp [h2]
      rw [hke]
      clear h255 h2 hke
      go_wp2_with fail
      rw [← HW.out]
      refine (allparts_p M W (fun b hb => by rw [HSZ.out]; exact HMW.out b hb)).mono ?_
      rintro e w1 ⟨⟨v, rfl, hv⟩, hb1⟩
      obtain ⟨pa, pc, fa, fc, rfl, hp, hf⟩ := hv.form
      dsimp only [allT, Ty.all, Ty.flat, Ty.pair, Ty.fn, Ty.pairs, Ty.funs, List.length_cons, List.length_nil] at hp hf ⊢
      have HBB := Lib.hid (HBX.out.keep hb1)
      replace HRR := Lib.hid (HRR.out.keep hb1)
      replace HBW := Lib.hid (HBW.out.trans (hb1.mono HBW.out.size))
      have HQP := Lib.hid hp
      have HQF := Lib.hid hf
      have hx := HBB.out
      have d0 := hx.c0
      have e0 := hx.fr 0
      have d1 := hx.c1
      have e1 := hx.fr 1
      have d2 := hx.c2
      have e2 := hx.fr 2
      have d3 := hx.c3
      have e3 := hx.fr 3
      have d4 := hx.c4
      have e4 := hx.fr 4
      have d5 := hx.c5
      have e5 := hx.fr 5
      clear hx hb1 hv hp hf HW HP HF
      go_upto_region 6 with fail
      obtain ⟨wc, hwc⟩ : ∃ wx : World, wx = ((((((w1.setCell ⟨w.heap.size, 0, none⟩ (.bool false)).setCell ⟨w.heap.size, 1, none⟩ (.int .i64 63)).setCell ⟨w.heap.size, 2, none⟩ (.int .i64 1)).setCell ⟨w.heap.size, 3, none⟩ (.slice pa 2 pc)).setCell ⟨w.heap.size, 4, none⟩ (.int .i64 2)).setCell ⟨w.heap.size, 5, none⟩ (.slice fa 0 fc)) := ⟨_, rfl⟩
      rw [← hwc]
      replace HBB := Lib.hid (show BoxAt wc w.heap.size false 63 1 (.slice pa (0 + 1 + 1) pc) 2 (.slice fa 0 fc) by rw [hwc]; exact BoxAt.set6 HBB.out)
      replace HRR := Lib.hid (show BoxAt wc (w.heap.size + 1) false 0 0 (.slice none 0 0) 0 (.slice none 0 0) by rw [hwc]; exact BoxAt.other6 HRR.out (by omega))
      have HP := Lib.hid (show TyS wc (Lo M wc) (.slice pa (0 + 1 + 1) pc) allT.pairs by rw [hwc]; exact TySN.set (TySN.set (TySN.set (TySN.set (TySN.set (TySN.set (HQP.out) ⟨w.heap.size, 0, none⟩ (by rw [HME.out]; exact .inr (.inl rfl)) _) ⟨w.heap.size, 1, none⟩ (by rw [HME.out]; exact .inr (.inl rfl)) _) ⟨w.heap.size, 2, none⟩ (by rw [HME.out]; exact .inr (.inl rfl)) _) ⟨w.heap.size, 3, none⟩ (by rw [HME.out]; exact .inr (.inl rfl)) _) ⟨w.heap.size, 4, none⟩ (by rw [HME.out]; exact .inr (.inl rfl)) _) ⟨w.heap.size, 5, none⟩ (by rw [HME.out]; exact .inr (.inl rfl)) _)
      have HF := Lib.hid (show TyS wc (Lo M wc) (.slice fa 0 fc) allT.funs by rw [hwc]; exact TySN.set (TySN.set (TySN.set (TySN.set (TySN.set (TySN.set (HQF.out) ⟨w.heap.size, 0, none⟩ (by rw [HME.out]; exact .inr (.inl rfl)) _) ⟨w.heap.size, 1, none⟩ (by rw [HME.out]; exact .inr (.inl rfl)) _) ⟨w.heap.size, 2, none⟩ (by rw [HME.out]; exact .inr (.inl rfl)) _) ⟨w.heap.size, 3, none⟩ (by rw [HME.out]; exact .inr (.inl rfl)) _) ⟨w.heap.size, 4, none⟩ (by rw [HME.out]; exact .inr (.inl rfl)) _) ⟨w.heap.size, 5, none⟩ (by rw [HME.out]; exact .inr (.inl rfl)) _)
      replace HBW := Lib.hid (show Below w.heap.size w wc by rw [hwc]; exact Go.Proofs.Ytgjkobkcmgliaaa.Below.set6 HBW.out (Nat.le_refl _))
      clear hwc d0 e0 d1 e1 d2 e2 d3 e3 d4 e4 d5 e5 HBX
      obtain ⟨f, hfq⟩ : ∃ f : Int, f = 63 := ⟨_, rfl⟩
      obtain ⟨p, hpq⟩ : ∃ f : Int, f = 1 := ⟨_, rfl⟩
      obtain ⟨k, hkq⟩ : ∃ f : Int, f = 2 := ⟨_, rfl⟩
      obtain ⟨pa, hpa⟩ : ∃ x : Option Addr, x = pa := ⟨_, rfl⟩
      obtain ⟨pn, hpn⟩ : ∃ x : Nat, x = 2 := ⟨_, rfl⟩
      obtain ⟨pc, hpc⟩ : ∃ x : Nat, x = pc := ⟨_, rfl⟩
      obtain ⟨fa, hfa⟩ : ∃ x : Option Addr, x = fa := ⟨_, rfl⟩
      obtain ⟨fn, hfn⟩ : ∃ x : Nat, x = 0 := ⟨_, rfl⟩
      obtain ⟨fc, hfc⟩ : ∃ x : Nat, x = fc := ⟨_, rfl⟩
      replace HBB := Lib.hid (show BoxAt wc w.heap.size false f p (.slice pa pn pc) k (.slice fa fn fc) by rw [hfq, hpq, hkq, hpa, hpn, hpc, hfa, hfn, hfc]; exact HBB.out)
      replace HP := Lib.hid (show TyS wc (Lo M wc) (.slice pa pn pc) allT.pairs by rw [hpa, hpn, hpc]; exact HP.out)
      replace HF := Lib.hid (show TyS wc (Lo M wc) (.slice fa fn fc) allT.funs by rw [hfa, hfn, hfc]; exact HF.out)
      obtain ⟨ff, hff⟩ : ∃ ff : Int, ff = ((f.toNat &&& lowN g : Nat) : Int) := ⟨_, rfl⟩
      have hand : bits .and .i64 f gi = ff := by
        have h1 := i64_and (x := f.toNat) (y := lowN g) (by rw [hfq]; decide) (lowN_lt g)
        rw [← hff, ← HGI.out, show ((f.toNat : Nat) : Int) = f by rw [hfq]; rfl] at h1
        exact h1
      have HFF := Lib.hid (show ((allT.flat.toNat &&& lowN g : Nat) : Int) = ff by rw [hff, hfq]; rfl)
      have HTA := Lib.hid (show allT.all = false from rfl)
      have HTP := Lib.hid (show allT.pair = p by rw [hpq]; rfl)
      have HTK := Lib.hid (show allT.fn = k by rw [hkq]; rfl)
      have HLN := Lib.hid (show allT.pairs.length ≤ 9 ∧ allT.funs.length ≤ 9 by decide)
      clear hff hfq hpq hkq hpa hpn hpc hfa hfn hfc
      have hc := HBB.out
      have x1 := hc.c1
      have y1 := hc.fr 1
      clear hc
      go_upto_region 7 with fail
      obtain ⟨uw1, huw1⟩ : ∃ wx : World, wx = (wc.setCell ⟨w.heap.size, 1, none⟩ (.int .i64 ff)) := ⟨_, rfl⟩
      rw [← huw1]
      replace HBB := Lib.hid (show BoxAt uw1 w.heap.size false ff p (.slice pa pn pc) k (.slice fa fn fc) by rw [huw1]; exact HBB.out.s1)
      replace HRR := Lib.hid (show BoxAt uw1 (w.heap.size + 1) false 0 0 (.slice none 0 0) 0 (.slice none 0 0) by rw [huw1]; exact (HRR.out.o (m := w.heap.size) (i := 1) (x := .int .i64 ff) (by omega)))
      replace HP := Lib.hid (show TyS uw1 (Lo M uw1) (.slice pa pn pc) allT.pairs by rw [huw1]; exact (TySN.set HP.out ⟨w.heap.size, 1, none⟩ (by rw [HME.out]; exact .inr (.inl rfl)) (.int .i64 ff)))
      replace HF := Lib.hid (show TyS uw1 (Lo M uw1) (.slice fa fn fc) allT.funs by rw [huw1]; exact (TySN.set HF.out ⟨w.heap.size, 1, none⟩ (by rw [HME.out]; exact .inr (.inl rfl)) (.int .i64 ff)))
      replace HBW := Lib.hid (show Below w.heap.size w uw1 by rw [huw1]; exact (HBW.out.setCell (p := ⟨w.heap.size, 1, none⟩) (Nat.le_refl _) (.int .i64 ff)))
      clear huw1
      clear x1 y1
      by_cases h64 : lowN g &&& 64 = 0
      · have k64 : (bits .and .i64 gi 64 == 0) = true := by rw [HK64.out]; simp [h64]
        have H64 := Lib.hid h64
        clear h64
        have hc := HBB.out
        have x2 := hc.c2
        have y2 := hc.fr 2
        have x3 := hc.c3
        have y3 := hc.fr 3
        clear hc
        go_upto_region 9 with fail
        obtain ⟨uw2, huw2⟩ : ∃ wx : World, wx = ((uw1.setCell ⟨w.heap.size, 2, none⟩ (.int .i64 0)).setCell ⟨w.heap.size, 3, none⟩ (.slice none 0 0)) := ⟨_, rfl⟩
        rw [← huw2]
        replace HBB := Lib.hid (show BoxAt uw2 w.heap.size false ff 0 (.slice none 0 0) k (.slice fa fn fc) by rw [huw2]; exact HBB.out.s2.s3)
        replace HRR := Lib.hid (show BoxAt uw2 (w.heap.size + 1) false 0 0 (.slice none 0 0) 0 (.slice none 0 0) by rw [huw2]; exact ((HRR.out.o (m := w.heap.size) (i := 2) (x := .int .i64 0) (by omega)).o (m := w.heap.size) (i := 3) (x := .slice none 0 0) (by omega)))
        replace HP := Lib.hid (show TyS uw2 (Lo M uw2) (.slice pa pn pc) allT.pairs by rw [huw2]; exact (TySN.set (TySN.set HP.out ⟨w.heap.size, 2, none⟩ (by rw [HME.out]; exact .inr (.inl rfl)) (.int .i64 0)) ⟨w.heap.size, 3, none⟩ (by rw [HME.out]; exact .inr (.inl rfl)) (.slice none 0 0)))
        replace HF := Lib.hid (show TyS uw2 (Lo M uw2) (.slice fa fn fc) allT.funs by rw [huw2]; exact (TySN.set (TySN.set HF.out ⟨w.heap.size, 2, none⟩ (by rw [HME.out]; exact .inr (.inl rfl)) (.int .i64 0)) ⟨w.heap.size, 3, none⟩ (by rw [HME.out]; exact .inr (.inl rfl)) (.slice none 0 0)))
        replace HBW := Lib.hid (show Below w.heap.size w uw2 by rw [huw2]; exact ((HBW.out.setCell (p := ⟨w.heap.size, 2, none⟩) (Nat.le_refl _) (.int .i64 0)).setCell (p := ⟨w.heap.size, 3, none⟩) (Nat.le_refl _) (.slice none 0 0)))
        clear huw2
        clear x2 y2 x3 y3
        by_cases h128 : lowN g &&& 128 = 0
        · have k128 : (bits .and .i64 gi 128 == 0) = true := by rw [HK128.out]; simp [h128]
          have H128 := Lib.hid h128
          clear h128
          have hc := HBB.out
          have x4 := hc.c4
          have y4 := hc.fr 4
          have x5 := hc.c5
          have y5 := hc.fr 5
          clear hc
          go_upto_region 11 with fail
          obtain ⟨uw3, huw3⟩ : ∃ wx : World, wx = ((uw2.setCell ⟨w.heap.size, 4, none⟩ (.int .i64 0)).setCell ⟨w.heap.size, 5, none⟩ (.slice none 0 0)) := ⟨_, rfl⟩
          rw [← huw3]
          replace HBB := Lib.hid (show BoxAt uw3 w.heap.size false ff 0 (.slice none 0 0) 0 (.slice none 0 0) by rw [huw3]; exact HBB.out.s4.s5)
          replace HRR := Lib.hid (show BoxAt uw3 (w.heap.size + 1) false 0 0 (.slice none 0 0) 0 (.slice none 0 0) by rw [huw3]; exact ((HRR.out.o (m := w.heap.size) (i := 4) (x := .int .i64 0) (by omega)).o (m := w.heap.size) (i := 5) (x := .slice none 0 0) (by omega)))
          replace HP := Lib.hid (show TyS uw3 (Lo M uw3) (.slice pa pn pc) allT.pairs by rw [huw3]; exact (TySN.set (TySN.set HP.out ⟨w.heap.size, 4, none⟩ (by rw [HME.out]; exact .inr (.inl rfl)) (.int .i64 0)) ⟨w.heap.size, 5, none⟩ (by rw [HME.out]; exact .inr (.inl rfl)) (.slice none 0 0)))
          replace HF := Lib.hid (show TyS uw3 (Lo M uw3) (.slice fa fn fc) allT.funs by rw [huw3]; exact (TySN.set (TySN.set HF.out ⟨w.heap.size, 4, none⟩ (by rw [HME.out]; exact .inr (.inl rfl)) (.int .i64 0)) ⟨w.heap.size, 5, none⟩ (by rw [HME.out]; exact .inr (.inl rfl)) (.slice none 0 0)))
          replace HBW := Lib.hid (show Below w.heap.size w uw3 by rw [huw3]; exact ((HBW.out.setCell (p := ⟨w.heap.size, 4, none⟩) (Nat.le_refl _) (.int .i64 0)).setCell (p := ⟨w.heap.size, 5, none⟩) (Nat.le_refl _) (.slice none 0 0)))
          clear huw3
          clear x4 y4 x5 y5
          have HCV := Lib.hid (show TyVN M uw3 (.agg #[.bool false, .int .i64 ff, .int .i64 0, .slice none 0 0, .int .i64 0, .slice none 0 0]) (Ty.mk false ff 0 [] 0 []) from TyVN.mk (.mkNil none 0) (.mkNil none 0))
          have HCE := Lib.hid (show cutT allT (lowN g) = (Ty.mk false ff 0 [] 0 []) by unfold cutT; rw [if_pos H64.out, if_pos H64.out, if_pos H128.out, if_pos H128.out, HFF.out, HTA.out])
          have hx := HBB.out
          have d0 := hx.c0
          have d1 := hx.c1
          have d2 := hx.c2
          have d3 := hx.c3
          have d4 := hx.c4
          have d5 := hx.c5
          clear hx
          go_wp2_with fail
          refine (ownrows_p M (Ty.mk false ff 0 [] 0 []) _ uw3 (fun b hb => Nat.lt_of_lt_of_le (HMW.out b hb) (show w.heap.size + 1 + 1 ≤ uw3.heap.size from by have := HRR.out.lt; omega)) (by simp [Ty.pairs]) (by simp [Ty.funs]) HCV.out).mono ?_
          rintro e w9 ⟨⟨v, rfl, hv⟩, hb9⟩
          obtain ⟨xpa, xpc, xfa, xfc, rfl, hxp, hxf⟩ := hv.form
          dsimp only [Ty.all, Ty.flat, Ty.pair, Ty.fn] at hv ⊢
          obtain ⟨xpn, hxpn⟩ : ∃ n, n = (Ty.pairs (Ty.mk false ff 0 [] 0 [])).length := ⟨_, rfl⟩
          obtain ⟨xfn, hxfn⟩ : ∃ n, n = (Ty.funs (Ty.mk false ff 0 [] 0 [])).length := ⟨_, rfl⟩
          rw [← hxpn, ← hxfn] at hv ⊢
          have HV9 := Lib.hid hv
          have HBW9 := Lib.hid (HBW.out.trans (hb9.mono HBW.out.size))
          have hr9 := HRR.out.keep hb9
          have r0 := hr9.c0
          have q0 := hr9.fr 0
          have r1 := hr9.c1
          have q1 := hr9.fr 1
          have r2 := hr9.c2
          have q2 := hr9.fr 2
          have r3 := hr9.c3
          have q3 := hr9.fr 3
          have r4 := hr9.c4
          have q4 := hr9.fr 4
          have r5 := hr9.c5
          have q5 := hr9.fr 5
          clear hr9 hb9 hv hxp hxf hxpn hxfn d0 d1 d2 d3 d4 d5
          go_wp2
          refine bodyPost_ret (v := .agg #[.bool false, .int .i64 ff, .int .i64 0, .slice xpa xpn xpc, .int .i64 0, .slice xfa xfn xfc]) ?_ ?_ ?_
          · simp [results, Try.results24, go_sem, r0, r1, r2, r3, r4, r5]
          · rfl
          · rw [HCE.out]; exact ty_done (by omega) HNN.out (HV9.out.mono fun b _ hb => by rw [HME.out]; rcases hb with h | h; exact .inl h; exact .inr (.inr h)) HBW9.out
        · have k128 : (bits .and .i64 gi 128 == 0) = false := by rw [HK128.out]; simp [h128]
          have H128 := Lib.hid h128
          clear h128
          go_upto_region 11 with fail
          have HCV := Lib.hid (show TyVN M uw2 (.agg #[.bool false, .int .i64 ff, .int .i64 0, .slice none 0 0, .int .i64 k, .slice fa fn fc]) (Ty.mk false ff 0 [] k allT.funs) from TyVN.mk (.mkNil none 0) (HF.out))
          have HCE := Lib.hid (show cutT allT (lowN g) = (Ty.mk false ff 0 [] k allT.funs) by unfold cutT; rw [if_pos H64.out, if_pos H64.out, if_neg H128.out, if_neg H128.out, HFF.out, HTA.out, HTK.out])
          have hx := HBB.out
          have d0 := hx.c0
          have d1 := hx.c1
          have d2 := hx.c2
          have d3 := hx.c3
          have d4 := hx.c4
          have d5 := hx.c5
          clear hx
          go_wp2_with fail
          refine (ownrows_p M (Ty.mk false ff 0 [] k allT.funs) _ uw2 (fun b hb => Nat.lt_of_lt_of_le (HMW.out b hb) (show w.heap.size + 1 + 1 ≤ uw2.heap.size from by have := HRR.out.lt; omega)) (by simp [Ty.pairs]) (show allT.funs.length ≤ 1000 by have := HLN.out.2; omega) HCV.out).mono ?_
          rintro e w9 ⟨⟨v, rfl, hv⟩, hb9⟩
          obtain ⟨xpa, xpc, xfa, xfc, rfl, hxp, hxf⟩ := hv.form
          dsimp only [Ty.all, Ty.flat, Ty.pair, Ty.fn] at hv ⊢
          obtain ⟨xpn, hxpn⟩ : ∃ n, n = (Ty.pairs (Ty.mk false ff 0 [] k allT.funs)).length := ⟨_, rfl⟩
          obtain ⟨xfn, hxfn⟩ : ∃ n, n = (Ty.funs (Ty.mk false ff 0 [] k allT.funs)).length := ⟨_, rfl⟩
          rw [← hxpn, ← hxfn] at hv ⊢
          have HV9 := Lib.hid hv
          have HBW9 := Lib.hid (HBW.out.trans (hb9.mono HBW.out.size))
          have hr9 := HRR.out.keep hb9
          have r0 := hr9.c0
          have q0 := hr9.fr 0
          have r1 := hr9.c1
          have q1 := hr9.fr 1
          have r2 := hr9.c2
          have q2 := hr9.fr 2
          have r3 := hr9.c3
          have q3 := hr9.fr 3
          have r4 := hr9.c4
          have q4 := hr9.fr 4
          have r5 := hr9.c5
          have q5 := hr9.fr 5
          clear hr9 hb9 hv hxp hxf hxpn hxfn d0 d1 d2 d3 d4 d5
          go_wp2
          refine bodyPost_ret (v := .agg #[.bool false, .int .i64 ff, .int .i64 0, .slice xpa xpn xpc, .int .i64 k, .slice xfa xfn xfc]) ?_ ?_ ?_
          · simp [results, Try.results24, go_sem, r0, r1, r2, r3, r4, r5]
          · rfl
          · rw [HCE.out]; exact ty_done (by omega) HNN.out (HV9.out.mono fun b _ hb => by rw [HME.out]; rcases hb with h | h; exact .inl h; exact .inr (.inr h)) HBW9.out
      · have k64 : (bits .and .i64 gi 64 == 0) = false := by rw [HK64.out]; simp [h64]
        have H64 := Lib.hid h64
        clear h64
        go_upto_region 9 with fail
        by_cases h128 : lowN g &&& 128 = 0
        · have k128 : (bits .and .i64 gi 128 == 0) = true := by rw [HK128.out]; simp [h128]
          have H128 := Lib.hid h128
          clear h128
          have hc := HBB.out
          have x4 := hc.c4
          have y4 := hc.fr 4
          have x5 := hc.c5
          have y5 := hc.fr 5
          clear hc
          go_upto_region 11 with fail
          obtain ⟨uw4, huw4⟩ : ∃ wx : World, wx = ((uw1.setCell ⟨w.heap.size, 4, none⟩ (.int .i64 0)).setCell ⟨w.heap.size, 5, none⟩ (.slice none 0 0)) := ⟨_, rfl⟩
          rw [← huw4]
          replace HBB := Lib.hid (show BoxAt uw4 w.heap.size false ff p (.slice pa pn pc) 0 (.slice none 0 0) by rw [huw4]; exact HBB.out.s4.s5)
          replace HRR := Lib.hid (show BoxAt uw4 (w.heap.size + 1) false 0 0 (.slice none 0 0) 0 (.slice none 0 0) by rw [huw4]; exact ((HRR.out.o (m := w.heap.size) (i := 4) (x := .int .i64 0) (by omega)).o (m := w.heap.size) (i := 5) (x := .slice none 0 0) (by omega)))
          replace HP := Lib.hid (show TyS uw4 (Lo M uw4) (.slice pa pn pc) allT.pairs by rw [huw4]; exact (TySN.set (TySN.set HP.out ⟨w.heap.size, 4, none⟩ (by rw [HME.out]; exact .inr (.inl rfl)) (.int .i64 0)) ⟨w.heap.size, 5, none⟩ (by rw [HME.out]; exact .inr (.inl rfl)) (.slice none 0 0)))
          replace HF := Lib.hid (show TyS uw4 (Lo M uw4) (.slice fa fn fc) allT.funs by rw [huw4]; exact (TySN.set (TySN.set HF.out ⟨w.heap.size, 4, none⟩ (by rw [HME.out]; exact .inr (.inl rfl)) (.int .i64 0)) ⟨w.heap.size, 5, none⟩ (by rw [HME.out]; exact .inr (.inl rfl)) (.slice none 0 0)))
          replace HBW := Lib.hid (show Below w.heap.size w uw4 by rw [huw4]; exact ((HBW.out.setCell (p := ⟨w.heap.size, 4, none⟩) (Nat.le_refl _) (.int .i64 0)).setCell (p := ⟨w.heap.size, 5, none⟩) (Nat.le_refl _) (.slice none 0 0)))
          clear huw4
          clear x4 y4 x5 y5
          have HCV := Lib.hid (show TyVN M uw4 (.agg #[.bool false, .int .i64 ff, .int .i64 p, .slice pa pn pc, .int .i64 0, .slice none 0 0]) (Ty.mk false ff p allT.pairs 0 []) from TyVN.mk (HP.out) (.mkNil none 0))
          have HCE := Lib.hid (show cutT allT (lowN g) = (Ty.mk false ff p allT.pairs 0 []) by unfold cutT; rw [if_neg H64.out, if_neg H64.out, if_pos H128.out, if_pos H128.out, HFF.out, HTA.out, HTP.out])
          have hx := HBB.out
          have d0 := hx.c0
          have d1 := hx.c1
          have d2 := hx.c2
          have d3 := hx.c3
          have d4 := hx.c4
          have d5 := hx.c5
          clear hx
          go_wp2_with fail
          refine (ownrows_p M (Ty.mk false ff p allT.pairs 0 []) _ uw4 (fun b hb => Nat.lt_of_lt_of_le (HMW.out b hb) (show w.heap.size + 1 + 1 ≤ uw4.heap.size from by have := HRR.out.lt; omega)) (show allT.pairs.length ≤ 1000 by have := HLN.out.1; omega) (by simp [Ty.funs]) HCV.out).mono ?_
          rintro e w9 ⟨⟨v, rfl, hv⟩, hb9⟩
          obtain ⟨xpa, xpc, xfa, xfc, rfl, hxp, hxf⟩ := hv.form
          dsimp only [Ty.all, Ty.flat, Ty.pair, Ty.fn] at hv ⊢
          obtain ⟨xpn, hxpn⟩ : ∃ n, n = (Ty.pairs (Ty.mk false ff p allT.pairs 0 [])).length := ⟨_, rfl⟩
          obtain ⟨xfn, hxfn⟩ : ∃ n, n = (Ty.funs (Ty.mk false ff p allT.pairs 0 [])).length := ⟨_, rfl⟩
          rw [← hxpn, ← hxfn] at hv ⊢
          have HV9 := Lib.hid hv
          have HBW9 := Lib.hid (HBW.out.trans (hb9.mono HBW.out.size))
          have hr9 := HRR.out.keep hb9
          have r0 := hr9.c0
          have q0 := hr9.fr 0
          have r1 := hr9.c1
          have q1 := hr9.fr 1
          have r2 := hr9.c2
          have q2 := hr9.fr 2
          have r3 := hr9.c3
          have q3 := hr9.fr 3
          have r4 := hr9.c4
          have q4 := hr9.fr 4
          have r5 := hr9.c5
          have q5 := hr9.fr 5
          clear hr9 hb9 hv hxp hxf hxpn hxfn d0 d1 d2 d3 d4 d5
          go_wp2
          refine bodyPost_ret (v := .agg #[.bool false, .int .i64 ff, .int .i64 p, .slice xpa xpn xpc, .int .i64 0, .slice xfa xfn xfc]) ?_ ?_ ?_
          · simp [results, Try.results24, go_sem, r0, r1, r2, r3, r4, r5]
          · rfl
          · rw [HCE.out]; exact ty_done (by omega) HNN.out (HV9.out.mono fun b _ hb => by rw [HME.out]; rcases hb with h | h; exact .inl h; exact .inr (.inr h)) HBW9.out
        · have k128 : (bits .and .i64 gi 128 == 0) = false := by rw [HK128.out]; simp [h128]
          have H128 := Lib.hid h128
          clear h128
          go_upto_region 11 with fail
          have HCV := Lib.hid (show TyVN M uw1 (.agg #[.bool false, .int .i64 ff, .int .i64 p, .slice pa pn pc, .int .i64 k, .slice fa fn fc]) (Ty.mk false ff p allT.pairs k allT.funs) from TyVN.mk (HP.out) (HF.out))
          have HCE := Lib.hid (show cutT allT (lowN g) = (Ty.mk false ff p allT.pairs k allT.funs) by unfold cutT; rw [if_neg H64.out, if_neg H64.out, if_neg H128.out, if_neg H128.out, HFF.out, HTA.out, HTP.out, HTK.out])
          have hx := HBB.out
          have d0 := hx.c0
          have d1 := hx.c1
          have d2 := hx.c2
          have d3 := hx.c3
          have d4 := hx.c4
          have d5 := hx.c5
          clear hx
          go_wp2_with fail
          refine (ownrows_p M (Ty.mk false ff p allT.pairs k allT.funs) _ uw1 (fun b hb => Nat.lt_of_lt_of_le (HMW.out b hb) (show w.heap.size + 1 + 1 ≤ uw1.heap.size from by have := HRR.out.lt; omega)) (show allT.pairs.length ≤ 1000 by have := HLN.out.1; omega) (show allT.funs.length ≤ 1000 by have := HLN.out.2; omega) HCV.out).mono ?_
          rintro e w9 ⟨⟨v, rfl, hv⟩, hb9⟩
          obtain ⟨xpa, xpc, xfa, xfc, rfl, hxp, hxf⟩ := hv.form
          dsimp only [Ty.all, Ty.flat, Ty.pair, Ty.fn] at hv ⊢
          obtain ⟨xpn, hxpn⟩ : ∃ n, n = (Ty.pairs (Ty.mk false ff p allT.pairs k allT.funs)).length := ⟨_, rfl⟩
          obtain ⟨xfn, hxfn⟩ : ∃ n, n = (Ty.funs (Ty.mk false ff p allT.pairs k allT.funs)).length := ⟨_, rfl⟩
          rw [← hxpn, ← hxfn] at hv ⊢
          have HV9 := Lib.hid hv
          have HBW9 := Lib.hid (HBW.out.trans (hb9.mono HBW.out.size))
          have hr9 := HRR.out.keep hb9
          have r0 := hr9.c0
          have q0 := hr9.fr 0
          have r1 := hr9.c1
          have q1 := hr9.fr 1
          have r2 := hr9.c2
          have q2 := hr9.fr 2
          have r3 := hr9.c3
          have q3 := hr9.fr 3
          have r4 := hr9.c4
          have q4 := hr9.fr 4
          have r5 := hr9.c5
          have q5 := hr9.fr 5
          clear hr9 hb9 hv hxp hxf hxpn hxfn d0 d1 d2 d3 d4 d5
          go_wp2
          refine bodyPost_ret (v := .agg #[.bool false, .int .i64 ff, .int .i64 p, .slice xpa xpn xpc, .int .i64 k, .slice xfa xfn xfc]) ?_ ?_ ?_
          · simp [results, Try.results24, go_sem, r0, r1, r2, r3, r4, r5]
          · rfl
          · rw [HCE.out]; exact ty_done (by omega) HNN.out (HV9.out.mono fun b _ hb => by rw [HME.out]; rcases hb with h | h; exact .inl h; exact .inr (.inr h)) HBW9.out
  | false =>
    have HBB := HBX
    have HKE := Lib.hid (show keepT t (lowN g) = cutT t (lowN g) by unfold keepT; rw [HTT.out.1]; rfl)
    rw [HKE.out]
    obtain ⟨ff, hff⟩ : ∃ ff : Int, ff = ((f.toNat &&& lowN g : Nat) : Int) := ⟨_, rfl⟩
    have hand : bits .and .i64 f gi = ff := by
      have h1 := i64_and (x := f.toNat) (y := lowN g) (by have := HFR.out; omega) (lowN_lt g)
      rw [← hff, ← HGI.out, show ((f.toNat : Nat) : Int) = f by have := HFR.out; omega] at h1
      exact h1
    have HFF := Lib.hid (show ((t.flat.toNat &&& lowN g : Nat) : Int) = ff by rw [HTT.out.2.1, hff])
    have HTA := Lib.hid HTT.out.1
    have HTP := Lib.hid HTT.out.2.2.1
    have HTK := Lib.hid HTT.out.2.2.2
    clear hff HBX
    go_upto_region 6 with fail
    rw [← HW.out]
    clear HW
    have hc := HBB.out
    have x1 := hc.c1
    have y1 := hc.fr 1
    clear hc
    go_upto_region 7 with fail
    obtain ⟨uw5, huw5⟩ : ∃ wx : World, wx = (W.setCell ⟨w.heap.size, 1, none⟩ (.int .i64 ff)) := ⟨_, rfl⟩
    rw [← huw5]
    replace HBB := Lib.hid (show BoxAt uw5 w.heap.size false ff p (.slice pa pn pc) k (.slice fa fn fc) by rw [huw5]; exact HBB.out.s1)
    replace HRR := Lib.hid (show BoxAt uw5 (w.heap.size + 1) false 0 0 (.slice none 0 0) 0 (.slice none 0 0) by rw [huw5]; exact (HRR.out.o (m := w.heap.size) (i := 1) (x := .int .i64 ff) (by omega)))
    replace HP := Lib.hid (show TyS uw5 (Lo M uw5) (.slice pa pn pc) t.pairs by rw [huw5]; exact (TySN.set HP.out ⟨w.heap.size, 1, none⟩ (by rw [HME.out]; exact .inr (.inl rfl)) (.int .i64 ff)))
    replace HF := Lib.hid (show TyS uw5 (Lo M uw5) (.slice fa fn fc) t.funs by rw [huw5]; exact (TySN.set HF.out ⟨w.heap.size, 1, none⟩ (by rw [HME.out]; exact .inr (.inl rfl)) (.int .i64 ff)))
    replace HBW := Lib.hid (show Below w.heap.size w uw5 by rw [huw5]; exact (HBW.out.setCell (p := ⟨w.heap.size, 1, none⟩) (Nat.le_refl _) (.int .i64 ff)))
    clear huw5
    clear x1 y1
    by_cases h64 : lowN g &&& 64 = 0
    · have k64 : (bits .and .i64 gi 64 == 0) = true := by rw [HK64.out]; simp [h64]
      have H64 := Lib.hid h64
      clear h64
      have hc := HBB.out
      have x2 := hc.c2
      have y2 := hc.fr 2
      have x3 := hc.c3
      have y3 := hc.fr 3
      clear hc
      go_upto_region 9 with fail
      obtain ⟨uw6, huw6⟩ : ∃ wx : World, wx = ((uw5.setCell ⟨w.heap.size, 2, none⟩ (.int .i64 0)).setCell ⟨w.heap.size, 3, none⟩ (.slice none 0 0)) := ⟨_, rfl⟩
      rw [← huw6]
      replace HBB := Lib.hid (show BoxAt uw6 w.heap.size false ff 0 (.slice none 0 0) k (.slice fa fn fc) by rw [huw6]; exact HBB.out.s2.s3)
      replace HRR := Lib.hid (show BoxAt uw6 (w.heap.size + 1) false 0 0 (.slice none 0 0) 0 (.slice none 0 0) by rw [huw6]; exact ((HRR.out.o (m := w.heap.size) (i := 2) (x := .int .i64 0) (by omega)).o (m := w.heap.size) (i := 3) (x := .slice none 0 0) (by omega)))
      replace HP := Lib.hid (show TyS uw6 (Lo M uw6) (.slice pa pn pc) t.pairs by rw [huw6]; exact (TySN.set (TySN.set HP.out ⟨w.heap.size, 2, none⟩ (by rw [HME.out]; exact .inr (.inl rfl)) (.int .i64 0)) ⟨w.heap.size, 3, none⟩ (by rw [HME.out]; exact .inr (.inl rfl)) (.slice none 0 0)))
      replace HF := Lib.hid (show TyS uw6 (Lo M uw6) (.slice fa fn fc) t.funs by rw [huw6]; exact (TySN.set (TySN.set HF.out ⟨w.heap.size, 2, none⟩ (by rw [HME.out]; exact .inr (.inl rfl)) (.int .i64 0)) ⟨w.heap.size, 3, none⟩ (by rw [HME.out]; exact .inr (.inl rfl)) (.slice none 0 0)))
      replace HBW := Lib.hid (show Below w.heap.size w uw6 by rw [huw6]; exact ((HBW.out.setCell (p := ⟨w.heap.size, 2, none⟩) (Nat.le_refl _) (.int .i64 0)).setCell (p := ⟨w.heap.size, 3, none⟩) (Nat.le_refl _) (.slice none 0 0)))
      clear huw6
      clear x2 y2 x3 y3
      by_cases h128 : lowN g &&& 128 = 0
      · have k128 : (bits .and .i64 gi 128 == 0) = true := by rw [HK128.out]; simp [h128]
        have H128 := Lib.hid h128
        clear h128
        have hc := HBB.out
        have x4 := hc.c4
        have y4 := hc.fr 4
        have x5 := hc.c5
        have y5 := hc.fr 5
        clear hc
        go_upto_region 11 with fail
        obtain ⟨uw7, huw7⟩ : ∃ wx : World, wx = ((uw6.setCell ⟨w.heap.size, 4, none⟩ (.int .i64 0)).setCell ⟨w.heap.size, 5, none⟩ (.slice none 0 0)) := ⟨_, rfl⟩
        rw [← huw7]
        replace HBB := Lib.hid (show BoxAt uw7 w.heap.size false ff 0 (.slice none 0 0) 0 (.slice none 0 0) by rw [huw7]; exact HBB.out.s4.s5)
        replace HRR := Lib.hid (show BoxAt uw7 (w.heap.size + 1) false 0 0 (.slice none 0 0) 0 (.slice none 0 0) by rw [huw7]; exact ((HRR.out.o (m := w.heap.size) (i := 4) (x := .int .i64 0) (by omega)).o (m := w.heap.size) (i := 5) (x := .slice none 0 0) (by omega)))
        replace HP := Lib.hid (show TyS uw7 (Lo M uw7) (.slice pa pn pc) t.pairs by rw [huw7]; exact (TySN.set (TySN.set HP.out ⟨w.heap.size, 4, none⟩ (by rw [HME.out]; exact .inr (.inl rfl)) (.int .i64 0)) ⟨w.heap.size, 5, none⟩ (by rw [HME.out]; exact .inr (.inl rfl)) (.slice none 0 0)))
        replace HF := Lib.hid (show TyS uw7 (Lo M uw7) (.slice fa fn fc) t.funs by rw [huw7]; exact (TySN.set (TySN.set HF.out ⟨w.heap.size, 4, none⟩ (by rw [HME.out]; exact .inr (.inl rfl)) (.int .i64 0)) ⟨w.heap.size, 5, none⟩ (by rw [HME.out]; exact .inr (.inl rfl)) (.slice none 0 0)))
        replace HBW := Lib.hid (show Below w.heap.size w uw7 by rw [huw7]; exact ((HBW.out.setCell (p := ⟨w.heap.size, 4, none⟩) (Nat.le_refl _) (.int .i64 0)).setCell (p := ⟨w.heap.size, 5, none⟩) (Nat.le_refl _) (.slice none 0 0)))
        clear huw7
        clear x4 y4 x5 y5
        have HCV := Lib.hid (show TyVN M uw7 (.agg #[.bool false, .int .i64 ff, .int .i64 0, .slice none 0 0, .int .i64 0, .slice none 0 0]) (Ty.mk false ff 0 [] 0 []) from TyVN.mk (.mkNil none 0) (.mkNil none 0))
        have HCE := Lib.hid (show cutT t (lowN g) = (Ty.mk false ff 0 [] 0 []) by unfold cutT; rw [if_pos H64.out, if_pos H64.out, if_pos H128.out, if_pos H128.out, HFF.out, HTA.out])
        have hx := HBB.out
        have d0 := hx.c0
        have d1 := hx.c1
        have d2 := hx.c2
        have d3 := hx.c3
        have d4 := hx.c4
        have d5 := hx.c5
        clear hx
        go_wp2_with fail
        refine (ownrows_p M (Ty.mk false ff 0 [] 0 []) _ uw7 (fun b hb => Nat.lt_of_lt_of_le (HMW.out b hb) (show w.heap.size + 1 + 1 ≤ uw7.heap.size from by have := HRR.out.lt; omega)) (by simp [Ty.pairs]) (by simp [Ty.funs]) HCV.out).mono ?_
        rintro e w9 ⟨⟨v, rfl, hv⟩, hb9⟩
        obtain ⟨xpa, xpc, xfa, xfc, rfl, hxp, hxf⟩ := hv.form
        dsimp only [Ty.all, Ty.flat, Ty.pair, Ty.fn] at hv ⊢
        obtain ⟨xpn, hxpn⟩ : ∃ n, n = (Ty.pairs (Ty.mk false ff 0 [] 0 [])).length := ⟨_, rfl⟩
        obtain ⟨xfn, hxfn⟩ : ∃ n, n = (Ty.funs (Ty.mk false ff 0 [] 0 [])).length := ⟨_, rfl⟩
        rw [← hxpn, ← hxfn] at hv ⊢
        have HV9 := Lib.hid hv
        have HBW9 := Lib.hid (HBW.out.trans (hb9.mono HBW.out.size))
        have hr9 := HRR.out.keep hb9
        have r0 := hr9.c0
        have q0 := hr9.fr 0
        have r1 := hr9.c1
        have q1 := hr9.fr 1
        have r2 := hr9.c2
        have q2 := hr9.fr 2
        have r3 := hr9.c3
        have q3 := hr9.fr 3
        have r4 := hr9.c4
        have q4 := hr9.fr 4
        have r5 := hr9.c5
        have q5 := hr9.fr 5
        clear hr9 hb9 hv hxp hxf hxpn hxfn d0 d1 d2 d3 d4 d5
        go_wp2
        refine bodyPost_ret (v := .agg #[.bool false, .int .i64 ff, .int .i64 0, .slice xpa xpn xpc, .int .i64 0, .slice xfa xfn xfc]) ?_ ?_ ?_
        · simp [results, Try.results24, go_sem, r0, r1, r2, r3, r4, r5]
        · rfl
        · rw [HCE.out]; exact ty_done (by omega) HNN.out (HV9.out.mono fun b _ hb => by rw [HME.out]; rcases hb with h | h; exact .inl h; exact .inr (.inr h)) HBW9.out
      · have k128 : (bits .and .i64 gi 128 == 0) = false := by rw [HK128.out]; simp [h128]
        have H128 := Lib.hid h128
        clear h128
        go_upto_region 11 with fail
        have HCV := Lib.hid (show TyVN M uw6 (.agg #[.bool false, .int .i64 ff, .int .i64 0, .slice none 0 0, .int .i64 k, .slice fa fn fc]) (Ty.mk false ff 0 [] k t.funs) from TyVN.mk (.mkNil none 0) (HF.out))
        have HCE := Lib.hid (show cutT t (lowN g) = (Ty.mk false ff 0 [] k t.funs) by unfold cutT; rw [if_pos H64.out, if_pos H64.out, if_neg H128.out, if_neg H128.out, HFF.out, HTA.out, HTK.out])
        have hx := HBB.out
        have d0 := hx.c0
        have d1 := hx.c1
        have d2 := hx.c2
        have d3 := hx.c3
        have d4 := hx.c4
        have d5 := hx.c5
        clear hx
        go_wp2_with fail
        refine (ownrows_p M (Ty.mk false ff 0 [] k t.funs) _ uw6 (fun b hb => Nat.lt_of_lt_of_le (HMW.out b hb) (show w.heap.size + 1 + 1 ≤ uw6.heap.size from by have := HRR.out.lt; omega)) (by simp [Ty.pairs]) (show t.funs.length ≤ 1000 by have := HLEN.out.2; omega) HCV.out).mono ?_
        rintro e w9 ⟨⟨v, rfl, hv⟩, hb9⟩
        obtain ⟨xpa, xpc, xfa, xfc, rfl, hxp, hxf⟩ := hv.form
        dsimp only [Ty.all, Ty.flat, Ty.pair, Ty.fn] at hv ⊢
        obtain ⟨xpn, hxpn⟩ : ∃ n, n = (Ty.pairs (Ty.mk false ff 0 [] k t.funs)).length := ⟨_, rfl⟩
        obtain ⟨xfn, hxfn⟩ : ∃ n, n = (Ty.funs (Ty.mk false ff 0 [] k t.funs)).length := ⟨_, rfl⟩
        rw [← hxpn, ← hxfn] at hv ⊢
        have HV9 := Lib.hid hv
        have HBW9 := Lib.hid (HBW.out.trans (hb9.mono HBW.out.size))
        have hr9 := HRR.out.keep hb9
        have r0 := hr9.c0
        have q0 := hr9.fr 0
        have r1 := hr9.c1
        have q1 := hr9.fr 1
        have r2 := hr9.c2
        have q2 := hr9.fr 2
        have r3 := hr9.c3
        have q3 := hr9.fr 3
        have r4 := hr9.c4
        have q4 := hr9.fr 4
        have r5 := hr9.c5
        have q5 := hr9.fr 5
        clear hr9 hb9 hv hxp hxf hxpn hxfn d0 d1 d2 d3 d4 d5
        go_wp2
        refine bodyPost_ret (v := .agg #[.bool false, .int .i64 ff, .int .i64 0, .slice xpa xpn xpc, .int .i64 k, .slice xfa xfn xfc]) ?_ ?_ ?_
        · simp [results, Try.results24, go_sem, r0, r1, r2, r3, r4, r5]
        · rfl
        · rw [HCE.out]; exact ty_done (by omega) HNN.out (HV9.out.mono fun b _ hb => by rw [HME.out]; rcases hb with h | h; exact .inl h; exact .inr (.inr h)) HBW9.out
    · have k64 : (bits .and .i64 gi 64 == 0) = false := by rw [HK64.out]; simp [h64]
      have H64 := Lib.hid h64
      clear h64
      go_upto_region 9 with fail
      by_cases h128 : lowN g &&& 128 = 0
      · have k128 : (bits .and .i64 gi 128 == 0) = true := by rw [HK128.out]; simp [h128]
        have H128 := Lib.hid h128
        clear h128
        have hc := HBB.out
        have x4 := hc.c4
        have y4 := hc.fr 4
        have x5 := hc.c5
        have y5 := hc.fr 5
        clear hc
        go_upto_region 11 with fail
        obtain ⟨uw8, huw8⟩ : ∃ wx : World, wx = ((uw5.setCell ⟨w.heap.size, 4, none⟩ (.int .i64 0)).setCell ⟨w.heap.size, 5, none⟩ (.slice none 0 0)) := ⟨_, rfl⟩
        rw [← huw8]
        replace HBB := Lib.hid (show BoxAt uw8 w.heap.size false ff p (.slice pa pn pc) 0 (.slice none 0 0) by rw [huw8]; exact HBB.out.s4.s5)
        replace HRR := Lib.hid (show BoxAt uw8 (w.heap.size + 1) false 0 0 (.slice none 0 0) 0 (.slice none 0 0) by rw [huw8]; exact ((HRR.out.o (m := w.heap.size) (i := 4) (x := .int .i64 0) (by omega)).o (m := w.heap.size) (i := 5) (x := .slice none 0 0) (by omega)))
        replace HP := Lib.hid (show TyS uw8 (Lo M uw8) (.slice pa pn pc) t.pairs by rw [huw8]; exact (TySN.set (TySN.set HP.out ⟨w.heap.size, 4, none⟩ (by rw [HME.out]; exact .inr (.inl rfl)) (.int .i64 0)) ⟨w.heap.size, 5, none⟩ (by rw [HME.out]; exact .inr (.inl rfl)) (.slice none 0 0)))
        replace HF := Lib.hid (show TyS uw8 (Lo M uw8) (.slice fa fn fc) t.funs by rw [huw8]; exact (TySN.set (TySN.set HF.out ⟨w.heap.size, 4, none⟩ (by rw [HME.out]; exact .inr (.inl rfl)) (.int .i64 0)) ⟨w.heap.size, 5, none⟩ (by rw [HME.out]; exact .inr (.inl rfl)) (.slice none 0 0)))
        replace HBW := Lib.hid (show Below w.heap.size w uw8 by rw [huw8]; exact ((HBW.out.setCell (p := ⟨w.heap.size, 4, none⟩) (Nat.le_refl _) (.int .i64 0)).setCell (p := ⟨w.heap.size, 5, none⟩) (Nat.le_refl _) (.slice none 0 0)))
        clear huw8
        clear x4 y4 x5 y5
        have HCV := Lib.hid (show TyVN M uw8 (.agg #[.bool false, .int .i64 ff, .int .i64 p, .slice pa pn pc, .int .i64 0, .slice none 0 0]) (Ty.mk false ff p t.pairs 0 []) from TyVN.mk (HP.out) (.mkNil none 0))
        have HCE := Lib.hid (show cutT t (lowN g) = (Ty.mk false ff p t.pairs 0 []) by unfold cutT; rw [if_neg H64.out, if_neg H64.out, if_pos H128.out, if_pos H128.out, HFF.out, HTA.out, HTP.out])
        have hx := HBB.out
        have d0 := hx.c0
        have d1 := hx.c1
        have d2 := hx.c2
        have d3 := hx.c3
        have d4 := hx.c4
        have d5 := hx.c5
        clear hx
        go_wp2_with fail
        refine (ownrows_p M (Ty.mk false ff p t.pairs 0 []) _ uw8 (fun b hb => Nat.lt_of_lt_of_le (HMW.out b hb) (show w.heap.size + 1 + 1 ≤ uw8.heap.size from by have := HRR.out.lt; omega)) (show t.pairs.length ≤ 1000 by have := HLEN.out.1; omega) (by simp [Ty.funs]) HCV.out).mono ?_
        rintro e w9 ⟨⟨v, rfl, hv⟩, hb9⟩
        obtain ⟨xpa, xpc, xfa, xfc, rfl, hxp, hxf⟩ := hv.form
        dsimp only [Ty.all, Ty.flat, Ty.pair, Ty.fn] at hv ⊢
        obtain ⟨xpn, hxpn⟩ : ∃ n, n = (Ty.pairs (Ty.mk false ff p t.pairs 0 [])).length := ⟨_, rfl⟩
        obtain ⟨xfn, hxfn⟩ : ∃ n, n = (Ty.funs (Ty.mk false ff p t.pairs 0 [])).length := ⟨_, rfl⟩
        rw [← hxpn, ← hxfn] at hv ⊢
        have HV9 := Lib.hid hv
        have HBW9 := Lib.hid (HBW.out.trans (hb9.mono HBW.out.size))
        have hr9 := HRR.out.keep hb9
        have r0 := hr9.c0
        have q0 := hr9.fr 0
        have r1 := hr9.c1
        have q1 := hr9.fr 1
        have r2 := hr9.c2
        have q2 := hr9.fr 2
        have r3 := hr9.c3
        have q3 := hr9.fr 3
        have r4 := hr9.c4
        have q4 := hr9.fr 4
        have r5 := hr9.c5
        have q5 := hr9.fr 5
        clear hr9 hb9 hv hxp hxf hxpn hxfn d0 d1 d2 d3 d4 d5
        go_wp2
        refine bodyPost_ret (v := .agg #[.bool false, .int .i64 ff, .int .i64 p, .slice xpa xpn xpc, .int .i64 0, .slice xfa xfn xfc]) ?_ ?_ ?_
        · simp [results, Try.results24, go_sem, r0, r1, r2, r3, r4, r5]
        · rfl
        · rw [HCE.out]; exact ty_done (by omega) HNN.out (HV9.out.mono fun b _ hb => by rw [HME.out]; rcases hb with h | h; exact .inl h; exact .inr (.inr h)) HBW9.out
      · have k128 : (bits .and .i64 gi 128 == 0) = false := by rw [HK128.out]; simp [h128]
        have H128 := Lib.hid h128
        clear h128
        go_upto_region 11 with fail
        have HCV := Lib.hid (show TyVN M uw5 (.agg #[.bool false, .int .i64 ff, .int .i64 p, .slice pa pn pc, .int .i64 k, .slice fa fn fc]) (Ty.mk false ff p t.pairs k t.funs) from TyVN.mk (HP.out) (HF.out))
        have HCE := Lib.hid (show cutT t (lowN g) = (Ty.mk false ff p t.pairs k t.funs) by unfold cutT; rw [if_neg H64.out, if_neg H64.out, if_neg H128.out, if_neg H128.out, HFF.out, HTA.out, HTP.out, HTK.out])
        have hx := HBB.out
        have d0 := hx.c0
        have d1 := hx.c1
        have d2 := hx.c2
        have d3 := hx.c3
        have d4 := hx.c4
        have d5 := hx.c5
        clear hx
        go_wp2_with fail
        refine (ownrows_p M (Ty.mk false ff p t.pairs k t.funs) _ uw5 (fun b hb => Nat.lt_of_lt_of_le (HMW.out b hb) (show w.heap.size + 1 + 1 ≤ uw5.heap.size from by have := HRR.out.lt; omega)) (show t.pairs.length ≤ 1000 by have := HLEN.out.1; omega) (show t.funs.length ≤ 1000 by have := HLEN.out.2; omega) HCV.out).mono ?_
        rintro e w9 ⟨⟨v, rfl, hv⟩, hb9⟩
        obtain ⟨xpa, xpc, xfa, xfc, rfl, hxp, hxf⟩ := hv.form
        dsimp only [Ty.all, Ty.flat, Ty.pair, Ty.fn] at hv ⊢
        obtain ⟨xpn, hxpn⟩ : ∃ n, n = (Ty.pairs (Ty.mk false ff p t.pairs k t.funs)).length := ⟨_, rfl⟩
        obtain ⟨xfn, hxfn⟩ : ∃ n, n = (Ty.funs (Ty.mk false ff p t.pairs k t.funs)).length := ⟨_, rfl⟩
        rw [← hxpn, ← hxfn] at hv ⊢
        have HV9 := Lib.hid hv
        have HBW9 := Lib.hid (HBW.out.trans (hb9.mono HBW.out.size))
        have hr9 := HRR.out.keep hb9
        have r0 := hr9.c0
        have q0 := hr9.fr 0
        have r1 := hr9.c1
        have q1 := hr9.fr 1
        have r2 := hr9.c2
        have q2 := hr9.fr 2
        have r3 := hr9.c3
        have q3 := hr9.fr 3
        have r4 := hr9.c4
        have q4 := hr9.fr 4
        have r5 := hr9.c5
        have q5 := hr9.fr 5
        clear hr9 hb9 hv hxp hxf hxpn hxfn d0 d1 d2 d3 d4 d5
        go_wp2
        refine bodyPost_ret (v := .agg #[.bool false, .int .i64 ff, .int .i64 p, .slice xpa xpn xpc, .int .i64 k, .slice xfa xfn xfc]) ?_ ?_ ?_
        · simp [results, Try.results24, go_sem, r0, r1, r2, r3, r4, r5]
        · rfl
        · rw [HCE.out]; exact ty_done (by omega) HNN.out (HV9.out.mono fun b _ hb => by rw [HME.out]; rcases hb with h | h; exact .inl h; exact .inr (.inr h)) HBW9.out
end Go.Proofs.Ytgjkobkcmgliaaa
