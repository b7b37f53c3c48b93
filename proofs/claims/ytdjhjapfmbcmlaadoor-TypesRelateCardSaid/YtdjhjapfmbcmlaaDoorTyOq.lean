import Derived.Test.YtdjhjapfmbcmlaaDoorTyUn
import Derived.Test.YtdjhjapfmbcmlaaDoorTyRo
namespace Go.Proofs.YtdjhjapfmbcmlaaDoor
open Go.RowKit

theorem TyS.drop {w : World} {ok : Nat → Prop} {b off c : Nat} {l : List Ty} (h : TyS w ok (.slice (some ⟨b, off, none⟩) l.length c) l) (m : Nat) (hm : m < l.length) : TyS w ok (.slice (some ⟨b, off + m * 6, none⟩) (l.length - m) (c - m)) (l.drop m) := by
  have hroom := TyS.room h
  rcases h.inv with ⟨rfl, _⟩ | ⟨b, off, cap, rs, e, hb, hl, hr, ho⟩
  · simp at hm
  · cases e
    have hlen : (l.drop m).length = l.length - m := by rw [List.length_drop]
    have hg : ∀ j, (rs.drop m).getD j raw0 = rs.getD (m + j) raw0 ∧ (l.drop m).getD j ty0 = l.getD (m + j) ty0 := fun j => by
      simp [List.getD_eq_getElem?_getD]
    have hrl : (rs.drop m).length = l.length - m := by rw [List.length_drop, ho.1]
    have := TyS.mk (w := w) (ok := ok) (l := l.drop m) (cap := c - m) (rs := rs.drop m) (off := off + m * 6) hb (by rw [hlen]; omega) (fun j hj => by
      rw [hrl] at hj
      rw [(hg j).1, show off + m * 6 + j * 6 = off + (m + j) * 6 by omega]; exact hr (m + j) (by rw [ho.1]; omega)) ⟨by rw [hrl, hlen], fun j hj => by
      rw [hlen] at hj
      rw [(hg j).1, (hg j).2]; exact ho.2 (m + j) (by omega)⟩ (by rw [hlen]; omega)
    rw [hlen] at this
    exact this

set_option maxRecDepth 100000 in
set_option maxHeartbeats 8000000 in
theorem opened_plain (N : Nat → Prop) (x : Ty) (vx : Value) (w : World) (hp : x.pair ≠ -1) (hx : TyVN N w vx x) : Calls Tryd.prog 65 #[vx] w (TyPost N x w) := by
  have HX := Lib.hid hx
  obtain ⟨xpa, xpc, xfa, xfc, rfl, xhp, xhf⟩ := hx.form
  obtain ⟨xnp, xhnp⟩ : ∃ n, n = x.pairs.length := ⟨_, rfl⟩
  obtain ⟨xnf, xhnf⟩ : ∃ n, n = x.funs.length := ⟨_, rfl⟩
  obtain ⟨xa, xha⟩ : ∃ a, a = x.all := ⟨_, rfl⟩
  obtain ⟨xf, xhf'⟩ : ∃ a, a = x.flat := ⟨_, rfl⟩
  obtain ⟨xp, xhp'⟩ : ∃ a, a = x.pair := ⟨_, rfl⟩
  obtain ⟨xn, xhn⟩ : ∃ a, a = x.fn := ⟨_, rfl⟩
  have hp2 : (xp == -1) = false := beq_false_of_ne (by rw [xhp']; exact hp)
  rw [← xhnp, ← xhnf, ← xha, ← xhf', ← xhp', ← xhn] at HX ⊢
  clear xhp xhf xhnp xhnf xha xhf' xhp' xhn hp hx
  go_enter Tryd.func65, Tryd.ntmps65
  go_wp2
  have hb : Below w.heap.size w ((w.alloc (.cells #[.bool xa, .int .i64 xf, .int .i64 xp, (.slice xpa xnp xpc), .int .i64 xn, (.slice xfa xnf xfc)] 24)).alloc (.cells #[.bool xa, .int .i64 xf, .int .i64 xp, (.slice xpa xnp xpc), .int .i64 xn, (.slice xfa xnf xfc)] 24)) := ((Below.refl _ _).alloc (Nat.le_refl _) _).alloc (by simp) _
  refine bodyPost_ret (v := .agg #[.bool xa, .int .i64 xf, .int .i64 xp, .slice xpa xnp xpc, .int .i64 xn, .slice xfa xnf xfc]) (by simp [results, Tryd.results65, go_sem]) rfl ⟨⟨_, rfl, HX.out.below hb⟩, hb⟩

def TyRowOK (n : Nat) : Prop := ∀ (N : Nat → Prop) (l : List Ty) (a : Option Addr) (c : Nat) (w : World), l.length ≤ n → l.length ≤ 1000 → Thin l → (∀ b, N b → b < w.heap.size) → TyS w (Lo N w) (.slice a l.length c) l →
    Calls Tryd.prog 75 #[.slice a l.length c] w (TyPost N (orow l) w)
theorem row_nil (N : Nat → Prop) (a : Option Addr) (c : Nat) (w : World) : Calls Tryd.prog 75 #[.slice a 0 c] w (TyPost N ty0 w) := by
  go_enter Tryd.func75, Tryd.ntmps75
  go_wp2
  refine bodyPost_ret (v := .agg #[.bool false, .int .i64 0, .int .i64 0, .slice none 0 0, .int .i64 0, .slice none 0 0]) (by simp [results, Tryd.results75, go_sem]) rfl ⟨⟨_, rfl, ty0_v _ _⟩, (Below.refl _ _).alloc (Nat.le_refl _) _⟩
set_option maxRecDepth 100000 in
set_option maxHeartbeats 8000000 in
theorem row_one (N : Nat → Prop) (x : Ty) (a : Option Addr) (c : Nat) (w : World) (hp : x.pair ≠ -1) (hl : TyS w (Lo N w) (.slice a 1 c) [x]) : Calls Tryd.prog 75 #[.slice a 1 c] w (TyPost N x w) := by
  obtain ⟨W, hW⟩ : ∃ W, W = w.alloc (.cells #[.bool false, .int .i64 0, .int .i64 0, (.slice none 0 0), .int .i64 0, (.slice none 0 0)] 24) := ⟨_, rfl⟩
  obtain ⟨g, hg⟩ : ∃ g, g = w.heap.size := ⟨_, rfl⟩
  have HBW := Lib.hid (show Below w.heap.size w W by rw [hW]; exact (Below.refl _ _).alloc (Nat.le_refl _) _)
  have HR := Lib.hid (show BoxAt W g false 0 0 (.slice none 0 0) 0 (.slice none 0 0) by rw [hW, hg]; exact BoxAt.made _ _ _ _ _ _ _)
  obtain ⟨b, off, p1, d1, p2, d2, rfl, hb', f0, f1, f2, f3, f4, f5, hv⟩ := TySN.elem hl (j := 0) (d := x) (by simp) rfl
  have hcc : ∀ o, W.cell? ⟨b, o, none⟩ = w.cell? ⟨b, o, none⟩ := fun o => HBW.out.cell (p := ⟨b, o, none⟩) hb'
  have C := opened_plain (fun b => N b ∨ b = g) x _ W hp (hv.later HBW.out fun b h => h.imp id fun h => by omega)
  obtain ⟨q1, hq1⟩ : ∃ q, q = x.pairs.length := ⟨_, rfl⟩
  obtain ⟨q2, hq2⟩ : ∃ q, q = x.funs.length := ⟨_, rfl⟩
  rw [← hq1] at f3 C
  rw [← hq2] at f5 C
  simp only [Nat.zero_mul, Nat.add_zero] at f0 f1 f2 f3 f4 f5
  have e0 := (hcc _).trans f0
  have e1 := (hcc _).trans f1
  have e2 := (hcc _).trans f2
  have e3 := (hcc _).trans f3
  have e4 := (hcc _).trans f4
  have e5 := (hcc _).trans f5
  have HC := Lib.hid C
  have HW := Lib.hid hW
  have HG := Lib.hid hg
  rw [hW] at e0 e1 e2 e3 e4 e5
  clear C hW hg hl hv hcc f0 f1 f2 f3 f4 f5 hq1 hq2 hp
  go_enter Tryd.func75, Tryd.ntmps75
  go_wp2_with fail
  rw [← HW.out]
  refine HC.out.mono ?_
  rintro e w9 ⟨⟨v, rfl, hv9⟩, hb9⟩
  obtain ⟨va, vf, vp, vpa, vnp, vpc, vk, vfa, vnf, vfc, rfl⟩ := hv9.shape
  have hr := HR.out.keep hb9
  have r0 := hr.c0
  have r1 := hr.c1
  have r2 := hr.c2
  have r3 := hr.c3
  have r4 := hr.c4
  have r5 := hr.c5
  have rf := hr.fr
  have HV := Lib.hid hv9
  have HB9 := Lib.hid (HBW.out.trans (hb9.mono HBW.out.size))
  clear hv9 hb9 hr e0 e1 e2 e3 e4 e5
  rw [← HG.out]
  go_wp2
  refine bodyPost_ret (v := .agg #[.bool va, .int .i64 vf, .int .i64 vp, .slice vpa vnp vpc, .int .i64 vk, .slice vfa vnf vfc]) (by simp [results, Tryd.results75, go_sem, r0, r1, r2, r3, r4, r5]) rfl ⟨⟨_, rfl, ?_⟩, Below.set6 (g := g) HB9.out (by rw [HG.out]; omega)⟩
  exact (TyVN.set6 (g := g) HV.out (.inr rfl)).mono fun _ _ h => .inl h

theorem fnt_none (N : Nat → Prop) (W0 : World) (J : Ty → Ty → Ty) : FnT N (fun _ _ => True) 78 #[] W0 (fun _ _ => False) J (fun _ _ => 0) 0 :=
  ⟨fun _ _ _ _ _ => trivial, fun _ _ => rfl, fun _ _ _ _ _ _ _ _ _ _ _ _ h => h.elim⟩
theorem fn2_none (N : Nat → Prop) (W0 : World) (P : Ty → Ty → Bool) : Fn2 N (fun _ _ => True) 79 #[] W0 (fun _ _ => False) P (fun _ _ => 0) 0 :=
  ⟨fun _ _ _ _ _ => trivial, fun _ _ => rfl, fun _ _ _ _ _ _ _ _ _ h => h.elim⟩
/-- two types joined of which at most one has pairs, and at most one procedures: the functions are not called -/
theorem join_thin (M : Nat → Prop) (x y : Ty) (vx vy : Value) (w : World) (hM : ∀ b, M b → b < w.heap.size) (okx : HdN x) (oky : HdN y) (hp : x.pair = 0 ∨ y.pair = 0) (hf : x.fn = 0 ∨ y.fn = 0) (hx : TyVN M w vx x) (hy : TyVN M w vy y) :
    Calls Tryd.prog 51 #[vx, vy, .func (.func 78) #[] #[], .func (.func 79) #[] #[]] w (TyPost M (jn x y) w) := by
  have h0 : joinPairsC (fun _ _ => 0) x y = 0 := by unfold joinPairsC; rw [if_pos hp]
  have h1 : joinFunsC (fun _ _ => 0) x y = 0 := by unfold joinFunsC; rw [if_pos hf]
  refine (joinBy_any (N := fun _ => False) (fnt_none _ w fun _ _ => ty0) (fn2_none _ w fun _ _ => false) (fun _ _ _ _ _ => trivial) M (fun _ h => h.elim) (fun _ h => h.elim) x y vx vy w 0 hM .refl trivial hx hy okx.1 oky.1
    (fun a b => hp.elim a b) (fun a b _ => hp.elim a b) (fun a b => hf.elim (fun e => (a e).elim) fun e => (b e).elim) (by rw [h0, h1]; exact Nat.le_refl _)).mono ?_
  rintro e w2 ⟨hv, hs, _⟩
  rw [joinBy_jn okx oky hp hf] at hv
  exact ⟨hv, hs.none⟩
end Go.Proofs.YtdjhjapfmbcmlaaDoor
namespace Go.Proofs.YtdjhjapfmbcmlaaDoor
open Go.RowKit

set_option maxRecDepth 100000 in
set_option maxHeartbeats 16000000 in
theorem row_many (n : Nat) (ih : TyRowOK n) (N : Nat → Prop) (l : List Ty) (b off : Nat) (c : Nat) (w : World) (hln : l.length ≤ n + 1) (hl2 : 2 ≤ l.length) (hmx : l.length ≤ 1000) (ht : Thin l) (hN : ∀ b, N b → b < w.heap.size) (hl : TyS w (Lo N w) (.slice (some ⟨b, off, none⟩) l.length c) l) :
    Calls Tryd.prog 75 #[.slice (some ⟨b, off, none⟩) l.length c] w (TyPost N (orow l) w) := by
  have hroom := TyS.room hl
  obtain ⟨m, hm⟩ : ∃ m, m = l.length / 2 := ⟨_, rfl⟩
  obtain ⟨W, hW⟩ : ∃ W, W = w.alloc (.cells #[.bool false, .int .i64 0, .int .i64 0, (.slice none 0 0), .int .i64 0, (.slice none 0 0)] 24) := ⟨_, rfl⟩
  obtain ⟨g, hg⟩ : ∃ g, g = w.heap.size := ⟨_, rfl⟩
  have HBW := Lib.hid (show Below w.heap.size w W by rw [hW]; exact (Below.refl _ _).alloc (Nat.le_refl _) _)
  have HR := Lib.hid (show BoxAt W g false 0 0 (.slice none 0 0) 0 (.slice none 0 0) by rw [hW, hg]; exact BoxAt.made _ _ _ _ _ _ _)
  have htd : l.take m ++ l.drop m = l := List.take_append_drop m l
  have hth : Thin (l.take m ++ l.drop m) := by rw [htd]; exact ht
  have ha := hth.app
  have hj : orow l = jn (orow (l.take m)) (orow (l.drop m)) := by rw [← orow_app _ _ ha.1.hd ha.2.1.hd, htd]
  have lt1 : (l.take m).length = m := by rw [List.length_take]; omega
  have lt2 : (l.drop m).length = l.length - m := by rw [List.length_drop]
  have HNG := Lib.hid (show ∀ b, (N b ∨ b = g) → b < W.heap.size from fun b h => h.elim (fun h => Nat.lt_of_lt_of_le (hN b h) HBW.out.size) fun h => by rw [h]; exact HR.out.lt)
  have h1 := TyS.take hl m (by omega) c (by omega)
  have h2 := TyS.drop hl m (by omega)
  have C1 : ∀ w1, Below W.heap.size W w1 → Calls Tryd.prog 75 #[.slice (some ⟨b, off, none⟩) m c] w1 (TyPost (fun b => N b ∨ b = g) (orow (l.take m)) w1) := fun w1 hb => by
    have := ih (fun b => N b ∨ b = g) (l.take m) (some ⟨b, off, none⟩) c w1 (by omega) (by omega) ha.1 (fun b h => Nat.lt_of_lt_of_le (HNG.out b h) hb.size) (by rw [lt1]; exact TySN.later h1 (HBW.out.trans (hb.mono HBW.out.size)) fun b h => h.imp id fun h => by omega)
    rw [lt1] at this
    exact this
  have C2 : ∀ w1, Below W.heap.size W w1 → Calls Tryd.prog 75 #[.slice (some ⟨b, off + m * 6, none⟩) (l.length - m) (c - m)] w1 (TyPost (fun b => N b ∨ b = g) (orow (l.drop m)) w1) := fun w1 hb => by
    have := ih (fun b => N b ∨ b = g) (l.drop m) (some ⟨b, off + m * 6, none⟩) (c - m) w1 (by omega) (by omega) ha.2.1 (fun b h => Nat.lt_of_lt_of_le (HNG.out b h) hb.size) (by rw [lt2]; exact TySN.later h2 (HBW.out.trans (hb.mono HBW.out.size)) fun b h => h.imp id fun h => by omega)
    rw [lt2] at this
    exact this
  have C3 : ∀ w1 vx vy, Below W.heap.size W w1 → TyVN (fun b => N b ∨ b = g) w1 vx (orow (l.take m)) → TyVN (fun b => N b ∨ b = g) w1 vy (orow (l.drop m)) →
      Calls Tryd.prog 51 #[vx, vy, .func (.func 78) #[] #[], .func (.func 79) #[] #[]] w1 (TyPost (fun b => N b ∨ b = g) (orow l) w1) := fun w1 vx vy hb hx hy => by
    rw [hj]
    exact join_thin _ _ _ vx vy w1 (fun b h => Nat.lt_of_lt_of_le (HNG.out b h) hb.size) (orow_hd _ ha.1.hd) (orow_hd _ ha.2.1.hd) ha.2.2.1 ha.2.2.2 hx hy
  generalize orow (l.take m) = o1 at C1 C3
  generalize orow (l.drop m) = o2 at C2 C3
  generalize orow l = o3 at C3 ⊢
  obtain ⟨nl, hnl⟩ : ∃ n, n = l.length := ⟨_, rfl⟩
  rw [← hnl] at C2 hm hroom hl2 hmx ⊢
  have q1 : (nl : Int).tdiv 2 = (m : Int) := by rw [hm]; rfl
  have q2 : IntKind.i64.wrap (m : Int) = (m : Int) := by unfold IntKind.wrap; simp [IntKind.bits, IntKind.signed]; omega
  have q3 : ¬ ((c : Int) - m = 0) := by omega
  have q6 : ¬ c = m := by omega
  have q4 : ((nl : Int) == 0) = false := beq_false_of_ne (by omega)
  have q5 : ((nl : Int) == 1) = false := beq_false_of_ne (by omega)
  have hnm : (m : Int) ≤ nl := by omega
  have hnc : (nl : Int) ≤ c := by omega
  have hn0 : (0 : Int) ≤ nl := by omega
  have hm0 : (0 : Int) ≤ m := by omega
  have hmc : (m : Int) ≤ c := by omega
  have HC1 := Lib.hid C1
  have HC2 := Lib.hid C2
  have HC3 := Lib.hid C3
  have HW := Lib.hid hW
  have HG := Lib.hid hg
  have HBD := Lib.hid (show Below W.heap.size W (w.alloc (.cells #[.bool false, .int .i64 0, .int .i64 0, (.slice none 0 0), .int .i64 0, (.slice none 0 0)] 24)).drew by rw [← hW]; exact (Below.refl _ _).drew)
  have HM := Lib.hid (show 2 ≤ nl ∧ m = nl / 2 ∧ nl ≤ c ∧ nl ≤ 1000 from ⟨hl2, hm, hroom, hmx⟩)
  clear C1 C2 C3 hW hg hm hl2 hroom hmx hnl hj h1 h2 hl ha hth htd lt1 lt2 hN ht ih hln
  go_enter Tryd.func75, Tryd.ntmps75
  go_wp2_with fail
  rw [← HG.out]
  go_region_held3 (fun _ => True)
  (exact trivial)
  (first
    | ((have _z := hb6; go_simp; go_at_call 51; refine (HC3.out _ _ _ ?h1 ?h2 ?h3).mono ?_; (case h2 => exact hv5.below hb6); (case h3 => exact hv6); (case h1 => have h5 := HBD.out.trans (hb5.mono HBD.out.size); exact h5.trans (hb6.mono h5.size)); rintro e w7 ⟨⟨v7, rfl, hv7⟩, hb7⟩; obtain ⟨va, vf, vp, vpa, vnp, vpc, vk, vfa, vnf, vfc, rfl⟩ := hv7.shape; have hbA : Below W.heap.size W w7 := (by have h5 := HBD.out.trans (hb5.mono HBD.out.size); have h6 := h5.trans (hb6.mono h5.size); exact h6.trans (hb7.mono h6.size)); have hr := HR.out.keep hbA; have r0 := hr.c0; have r1 := hr.c1; have r2 := hr.c2; have r3 := hr.c3; have r4 := hr.c4; have r5 := hr.c5; have rf := hr.fr))
    | ((have _z := hb5; go_simp; go_at_call 75; refine (HC2.out _ ?h1).mono ?_; (case h1 => exact HBD.out.trans (hb5.mono HBD.out.size)); rintro e w6 ⟨⟨v6, rfl, hv6⟩, hb6⟩))
    | ((go_simp; go_at_call 75; refine (HC1.out _ ?h1).mono ?_; (case h1 => exact HBD.out); rintro e w5 ⟨⟨v5, rfl, hv5⟩, hb5⟩)))
  have HV := Lib.hid hv7
  have HB9 := Lib.hid (HBW.out.trans (hbA.mono HBW.out.size))
  clear hv7 hb7 hv6 hb6 hv5 hb5 hr hbA
  go_wp2
  refine bodyPost_ret (v := .agg #[.bool va, .int .i64 vf, .int .i64 vp, .slice vpa vnp vpc, .int .i64 vk, .slice vfa vnf vfc]) (by simp [results, Tryd.results75, go_sem, r0, r1, r2, r3, r4, r5]) rfl ⟨⟨_, rfl, ?_⟩, Below.set6 (g := g) HB9.out (by rw [HG.out]; omega)⟩
  exact (TyVN.set6 (g := g) HV.out (.inr rfl)).mono fun _ _ h => .inl h

theorem row_any : ∀ n : Nat, TyRowOK n := by
  intro n
  induction n with
  | zero =>
    intro N l a c w h1 _ _ _ _
    obtain rfl : l = [] := List.length_eq_zero_iff.1 (by omega)
    exact row_nil N a c w
  | succ n ih =>
    intro N l a c w h1 h2 h3 h4 h5
    match l, h1, h2, h3, h5 with
    | [], _, _, _, _ => exact row_nil N a c w
    | [x], _, _, h3, h5 =>
      have hx := h3.hd x (List.mem_singleton.2 rfl)
      rw [orow_one hx]
      exact row_one N x a c w (by have := (headH hx.1).2.2.1; omega) h5
    | x :: y :: r, h1, h2, h3, h5 =>
      obtain ⟨b, off, _, rfl, _⟩ := TyS.at h5 (j := 0) (by simp)
      exact row_many n ih N (x :: y :: r) b off c w h1 (by simp) h2 h3 h4 h5

set_option maxRecDepth 100000 in
set_option maxHeartbeats 8000000 in
/-- a union is opened -/
theorem opened_row (N : Nat → Prop) (l : List Ty) (vx : Value) (w : World) (ht : Thin l) (hl : l.length ≤ 1000) (hN : ∀ b, N b → b < w.heap.size) (hx : TyVN N w vx (.mk false 0 (-1) l 0 [])) : Calls Tryd.prog 65 #[vx] w (TyPost N (orow l) w) := by
  obtain ⟨pa, pc, fa, fc, rfl, hp, _⟩ := hx.form
  simp only [Ty.all, Ty.flat, Ty.pair, Ty.pairs, Ty.fn, Ty.funs, List.length_nil] at hp ⊢
  obtain ⟨W, hW⟩ : ∃ W, W = (w.alloc (.cells #[.bool false, .int .i64 0, .int .i64 (-1), .slice pa l.length pc, .int .i64 0, .slice fa 0 fc] 24)).alloc (.cells #[.bool false, .int .i64 0, .int .i64 0, (.slice none 0 0), .int .i64 0, (.slice none 0 0)] 24) := ⟨_, rfl⟩
  obtain ⟨g, hg⟩ : ∃ g, g = w.heap.size + 1 := ⟨_, rfl⟩
  have HBW := Lib.hid (show Below w.heap.size w W by rw [hW]; exact ((Below.refl _ _).alloc (Nat.le_refl _) _).alloc (by simp) _)
  have HR := Lib.hid (show BoxAt W g false 0 0 (.slice none 0 0) 0 (.slice none 0 0) by rw [hW, hg, ← alloc_hs w (.cells #[.bool false, .int .i64 0, .int .i64 (-1), .slice pa l.length pc, .int .i64 0, .slice fa 0 fc] 24)]; exact BoxAt.made _ _ _ _ _ _ _)
  have C := row_any l.length (fun b => N b ∨ b = g) l pa pc W (Nat.le_refl _) hl ht (fun b h => h.elim (fun h => Nat.lt_of_lt_of_le (hN b h) HBW.out.size) fun h => by rw [h]; exact HR.out.lt) (TySN.later hp HBW.out fun b h => h.imp id fun h => by omega)
  generalize orow l = o at C ⊢
  generalize l.length = nl at C HR hW ⊢
  have HC := Lib.hid C
  have HW := Lib.hid hW
  have HG := Lib.hid hg
  clear C hW hg hp hx hN hl ht
  go_enter Tryd.func65, Tryd.ntmps65
  go_wp2_with fail
  rw [← HW.out]
  refine HC.out.mono ?_
  rintro e w9 ⟨⟨v, rfl, hv9⟩, hb9⟩
  obtain ⟨va, vf, vp, vpa, vnp, vpc, vk, vfa, vnf, vfc, rfl⟩ := hv9.shape
  have hr := HR.out.keep hb9
  have r0 := hr.c0
  have r1 := hr.c1
  have r2 := hr.c2
  have r3 := hr.c3
  have r4 := hr.c4
  have r5 := hr.c5
  have rf := hr.fr
  have HV := Lib.hid hv9
  have HB9 := Lib.hid (HBW.out.trans (hb9.mono HBW.out.size))
  clear hv9 hb9 hr
  rw [← HG.out]
  go_wp2
  refine bodyPost_ret (v := .agg #[.bool va, .int .i64 vf, .int .i64 vp, .slice vpa vnp vpc, .int .i64 vk, .slice vfa vnf vfc]) (by simp [results, Tryd.results65, go_sem, r0, r1, r2, r3, r4, r5]) rfl ⟨⟨_, rfl, ?_⟩, Below.set6 (g := g) HB9.out (by rw [HG.out]; omega)⟩
  exact (TyVN.set6 (g := g) HV.out (.inr rfl)).mono fun _ _ h => .inl h
/-- a type as it was parsed is opened -/
theorem opened_un (N : Nat → Prop) (t : Ty) (ht : okTy t) (vx : Value) (w : World) (hN : ∀ b, N b → b < w.heap.size) (hx : TyVN N w vx (unT t)) : Calls Tryd.prog 65 #[vx] w (TyPost N (hdU t) w) := by
  rcases un_cases t ht with ⟨h1, h2⟩ | ⟨l, h1, _, h3, h4, h5⟩
  · rw [h1] at hx
    exact opened_plain N _ vx w (by have := (headH h2).2.2.1; omega) hx
  · rw [h4] at hx
    rw [← h5]
    exact opened_row N l vx w h1 (by omega) hN hx
end Go.Proofs.YtdjhjapfmbcmlaaDoor
