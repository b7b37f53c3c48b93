import Derived.Test.YtdjhjapfmbcmlaaDoorTyNa
import Derived.Test.YtdjhjapfmbcmlaaDoorTyFn
import Derived.Deep.RegionHeld3
namespace Go.Proofs.YtdjhjapfmbcmlaaDoor
open Go.RowKit

/-- the type that is a word and types, its unions not joined -/
def formP (s : List UInt8) (l : List Ty) : Option Ty :=
  if s = nU then some (.mk false 0 (-1) l 0 []) else
  if s = nPair then (if l.length = 2 then some (.mk false 0 1 l 0 []) else none) else
  if s = nList then (if l.length = 1 then some (.mk false 16 2 l 0 []) else none) else
  if s = nList1 then (if l.length = 1 then some (.mk false 0 2 l 0 []) else none) else
  if s = nArrow then (if 1 ≤ l.length then some (.mk false 0 0 [] 1 l) else none) else none
theorem TyS.take {w : World} {ok : Nat → Prop} {a : Option Addr} {c : Nat} {l : List Ty} (h : TyS w ok (.slice a l.length c) l) (m : Nat) (hm : m ≤ l.length) (c' : Nat) (hc : m ≤ c') : TyS w ok (.slice a m c') (l.take m) := by
  rcases h.inv with ⟨rfl, _⟩ | ⟨b, off, cap, rs, e, hb, hl, hr, ho⟩
  · obtain rfl : m = 0 := by simpa using hm
    exact .mkNil _ _
  · cases e
    have hlen : (l.take m).length = m := by rw [List.length_take]; omega
    have hg : ∀ j, j < m → (rs.take m).getD j raw0 = rs.getD j raw0 ∧ (l.take m).getD j ty0 = l.getD j ty0 := fun j hj => by
      simp [List.getD_eq_getElem?_getD, hj]
    have hrl : (rs.take m).length = m := by rw [List.length_take, ho.1]; omega
    have := TyS.mk (w := w) (ok := ok) (l := l.take m) (cap := c') (rs := rs.take m) hb (by rw [hlen]; omega) (fun j hj => by
      rw [hrl] at hj
      rw [(hg j hj).1]; exact hr j (by rw [ho.1]; omega)) ⟨by rw [hrl, hlen], fun j hj => by
      rw [hlen] at hj
      rw [(hg j hj).1, (hg j hj).2]; exact ho.2 j (by omega)⟩ (by rw [hlen]; exact hc)
    rw [hlen] at this
    exact this
theorem pair_form {N : Nat → Prop} {w : World} {v : Value} {y z : Ty} (h : TyVN N w v (.mk false 0 1 [y, z] 0 [])) : ∃ a c a' c', v = .agg #[.bool false, .int .i64 0, .int .i64 1, .slice a 2 c, .int .i64 0, .slice a' 0 c'] := by
  obtain ⟨a, c, a', c', e, _⟩ := h.form
  exact ⟨a, c, a', c', e⟩

set_option maxRecDepth 100000 in
set_option maxHeartbeats 16000000 in
theorem formed_nU (N : Nat → Prop) (l : List Ty) (a : Option Addr) (c : Nat) (w : World) (hN : ∀ b, N b → b < w.heap.size) (hl : TyS w (Lo N w) (.slice a l.length c) l) : Calls Tryd.prog 62 #[.string ⟨nU.toArray⟩, .slice a l.length c] w (NamPost N (.mk false 0 (-1) l 0 []) w) := by
  obtain ⟨W, hW⟩ : ∃ W, W = w.alloc (.cells #[.bool false, .int .i64 0, .int .i64 0, (.slice none 0 0), .int .i64 0, (.slice none 0 0)] 24) := ⟨_, rfl⟩
  obtain ⟨g, hg⟩ : ∃ g, g = w.heap.size := ⟨_, rfl⟩
  obtain ⟨nl, hnl⟩ : ∃ n, n = l.length := ⟨_, rfl⟩
  have HBW := Lib.hid (show Below w.heap.size w W by rw [hW]; exact (Below.refl _ _).alloc (Nat.le_refl _) _)
  have HR := Lib.hid (show BoxAt W g false 0 0 (.slice none 0 0) 0 (.slice none 0 0) by rw [hW, hg]; exact BoxAt.made _ _ _ _ _ _ _)
  have HNW := Lib.hid (show ∀ b, (N b ∨ b = g) → b < W.heap.size from fun b h => h.elim (fun h => Nat.lt_of_lt_of_le (hN b h) HBW.out.size) (fun h => by rw [h]; exact HR.out.lt))
  rw [← hnl] at hl ⊢
  have HL := Lib.hid hl
  have HNL := Lib.hid hnl
  have HW := Lib.hid hW
  have HG := Lib.hid hg
  clear hW hg hl hnl hN
  go_enter Tryd.func62, Tryd.ntmps62
  go_wp2
  refine bodyPost_ret (v := .tuple #[.agg #[.bool false, .int .i64 0, .int .i64 (-1), .slice a nl c, .int .i64 0, .slice none 0 0], .bool true]) (by simp [results, Tryd.results62, go_sem]) rfl ⟨⟨_, rfl, TyVN.mk ?_ (.mkNil _ _)⟩, (Below.refl _ _).alloc (Nat.le_refl _) _⟩
  exact TySN.below HL.out ((Below.refl _ _).alloc (Nat.le_refl _) _)

set_option maxRecDepth 100000 in
set_option maxHeartbeats 16000000 in
theorem formed_nList1 (N : Nat → Prop) (l : List Ty) (a : Option Addr) (c : Nat) (w : World) (hN : ∀ b, N b → b < w.heap.size) (hl : TyS w (Lo N w) (.slice a l.length c) l) (hlen : l.length = 1) : Calls Tryd.prog 62 #[.string ⟨nList1.toArray⟩, .slice a l.length c] w (NamPost N (.mk false 0 2 l 0 []) w) := by
  obtain ⟨W, hW⟩ : ∃ W, W = w.alloc (.cells #[.bool false, .int .i64 0, .int .i64 0, (.slice none 0 0), .int .i64 0, (.slice none 0 0)] 24) := ⟨_, rfl⟩
  obtain ⟨g, hg⟩ : ∃ g, g = w.heap.size := ⟨_, rfl⟩
  obtain ⟨nl, hnl⟩ : ∃ n, n = l.length := ⟨_, rfl⟩
  have HBW := Lib.hid (show Below w.heap.size w W by rw [hW]; exact (Below.refl _ _).alloc (Nat.le_refl _) _)
  have HR := Lib.hid (show BoxAt W g false 0 0 (.slice none 0 0) 0 (.slice none 0 0) by rw [hW, hg]; exact BoxAt.made _ _ _ _ _ _ _)
  have HNW := Lib.hid (show ∀ b, (N b ∨ b = g) → b < W.heap.size from fun b h => h.elim (fun h => Nat.lt_of_lt_of_le (hN b h) HBW.out.size) (fun h => by rw [h]; exact HR.out.lt))
  rw [← hnl] at hl hlen ⊢
  have HL := Lib.hid hl
  have HNL := Lib.hid hnl
  have HW := Lib.hid hW
  have HG := Lib.hid hg
  clear hW hg hl hnl hN
  subst hlen
  go_enter Tryd.func62, Tryd.ntmps62
  go_wp2
  refine bodyPost_ret (v := .tuple #[.agg #[.bool false, .int .i64 0, .int .i64 2, .slice a 1 c, .int .i64 0, .slice none 0 0], .bool true]) (by simp [results, Tryd.results62, go_sem]) rfl ⟨⟨_, rfl, TyVN.mk ?_ (.mkNil _ _)⟩, (Below.refl _ _).alloc (Nat.le_refl _) _⟩
  exact TySN.below HL.out ((Below.refl _ _).alloc (Nat.le_refl _) _)

set_option maxRecDepth 100000 in
set_option maxHeartbeats 16000000 in
theorem formed_nList (N : Nat → Prop) (l : List Ty) (a : Option Addr) (c : Nat) (w : World) (hN : ∀ b, N b → b < w.heap.size) (hl : TyS w (Lo N w) (.slice a l.length c) l) (hlen : l.length = 1) : Calls Tryd.prog 62 #[.string ⟨nList.toArray⟩, .slice a l.length c] w (NamPost N (.mk false 16 2 l 0 []) w) := by
  obtain ⟨W, hW⟩ : ∃ W, W = w.alloc (.cells #[.bool false, .int .i64 0, .int .i64 0, (.slice none 0 0), .int .i64 0, (.slice none 0 0)] 24) := ⟨_, rfl⟩
  obtain ⟨g, hg⟩ : ∃ g, g = w.heap.size := ⟨_, rfl⟩
  obtain ⟨nl, hnl⟩ : ∃ n, n = l.length := ⟨_, rfl⟩
  have HBW := Lib.hid (show Below w.heap.size w W by rw [hW]; exact (Below.refl _ _).alloc (Nat.le_refl _) _)
  have HR := Lib.hid (show BoxAt W g false 0 0 (.slice none 0 0) 0 (.slice none 0 0) by rw [hW, hg]; exact BoxAt.made _ _ _ _ _ _ _)
  have HNW := Lib.hid (show ∀ b, (N b ∨ b = g) → b < W.heap.size from fun b h => h.elim (fun h => Nat.lt_of_lt_of_le (hN b h) HBW.out.size) (fun h => by rw [h]; exact HR.out.lt))
  rw [← hnl] at hl hlen ⊢
  have HL := Lib.hid hl
  have HNL := Lib.hid hnl
  have HW := Lib.hid hW
  have HG := Lib.hid hg
  clear hW hg hl hnl hN
  subst hlen
  obtain ⟨y, hy⟩ : ∃ d, l.getD 0 ty0 = d := ⟨_, rfl⟩
  obtain ⟨yb, yo, yp1, yc1, yp2, yc2, ye, ylt, yf0, yf1, yf2, yf3, yf4, yf5, yv⟩ := TySN.elem HL.out (show 0 < l.length by rw [← HNL.out]; omega) hy
  subst ye
  have hcc : ∀ o, W.cell? ⟨yb, o, none⟩ = w.cell? ⟨yb, o, none⟩ := fun o => HBW.out.cell (p := ⟨yb, o, none⟩) ylt
  have C := listof_p (fun b => N b ∨ b = g) y _ W HNW.out (yv.later HBW.out fun b h => h.imp id fun h => by rw [h, HG.out]; omega)
  have hll : l = [y] := by
    have h1 := HNL.out
    match l, h1, hy with
    | [x], _, hy => simp at hy; rw [hy]
  obtain ⟨q1, hq1⟩ : ∃ q, q = y.pairs.length := ⟨_, rfl⟩
  obtain ⟨q2, hq2⟩ : ∃ q, q = y.funs.length := ⟨_, rfl⟩
  rw [← hq1] at yf3 C
  rw [← hq2] at yf5 C
  simp only [Nat.zero_mul, Nat.add_zero] at yf0 yf1 yf2 yf3 yf4 yf5
  have e0 := (hcc _).trans yf0
  have e1 := (hcc _).trans yf1
  have e2 := (hcc _).trans yf2
  have e3 := (hcc _).trans yf3
  have e4 := (hcc _).trans yf4
  have e5 := (hcc _).trans yf5
  have HC := Lib.hid C
  have HLL := Lib.hid hll
  clear C hll hy yv hq1 hq2 hcc yf0 yf1 yf2 yf3 yf4 yf5
  rw [HW.out] at e0 e1 e2 e3 e4 e5
  go_enter Tryd.func62, Tryd.ntmps62
  go_wp2_with fail
  rw [← HG.out, ← HW.out]
  refine HC.out.mono ?_
  rintro e w2 ⟨⟨v, rfl, hv⟩, hb2⟩
  obtain ⟨la, lc, ma, mc, rfl⟩ := list_form hv
  have hr := HR.out.keep hb2
  have r0 := hr.c0
  have r1 := hr.c1
  have r2 := hr.c2
  have r3 := hr.c3
  have r4 := hr.c4
  have r5 := hr.c5
  have rf := hr.fr
  have HV := Lib.hid hv
  have HB2 := Lib.hid (HBW.out.trans (hb2.mono HBW.out.size))
  clear hb2 hr hv e0 e1 e2 e3 e4 e5
  go_wp2
  refine bodyPost_ret (v := .tuple #[.agg #[.bool false, .int .i64 16, .int .i64 2, .slice la 1 lc, .int .i64 0, .slice ma 0 mc], .bool true]) (by simp [results, Tryd.results62, go_sem, r0, r1, r2, r3, r4, r5]) rfl ⟨⟨_, rfl, ?_⟩, Below.set6 (g := g) HB2.out (by rw [HG.out]; omega)⟩
  rw [HLL.out]
  exact (TyVN.set6 (g := g) HV.out (.inr rfl)).mono fun _ _ h => .inl h

set_option maxRecDepth 100000 in
set_option maxHeartbeats 16000000 in
theorem formed_nPair (N : Nat → Prop) (l : List Ty) (a : Option Addr) (c : Nat) (w : World) (hN : ∀ b, N b → b < w.heap.size) (hl : TyS w (Lo N w) (.slice a l.length c) l) (hlen : l.length = 2) : Calls Tryd.prog 62 #[.string ⟨nPair.toArray⟩, .slice a l.length c] w (NamPost N (.mk false 0 1 l 0 []) w) := by
  obtain ⟨W, hW⟩ : ∃ W, W = w.alloc (.cells #[.bool false, .int .i64 0, .int .i64 0, (.slice none 0 0), .int .i64 0, (.slice none 0 0)] 24) := ⟨_, rfl⟩
  obtain ⟨g, hg⟩ : ∃ g, g = w.heap.size := ⟨_, rfl⟩
  obtain ⟨nl, hnl⟩ : ∃ n, n = l.length := ⟨_, rfl⟩
  have HBW := Lib.hid (show Below w.heap.size w W by rw [hW]; exact (Below.refl _ _).alloc (Nat.le_refl _) _)
  have HR := Lib.hid (show BoxAt W g false 0 0 (.slice none 0 0) 0 (.slice none 0 0) by rw [hW, hg]; exact BoxAt.made _ _ _ _ _ _ _)
  have HNW := Lib.hid (show ∀ b, (N b ∨ b = g) → b < W.heap.size from fun b h => h.elim (fun h => Nat.lt_of_lt_of_le (hN b h) HBW.out.size) (fun h => by rw [h]; exact HR.out.lt))
  rw [← hnl] at hl hlen ⊢
  have HL := Lib.hid hl
  have HNL := Lib.hid hnl
  have HW := Lib.hid hW
  have HG := Lib.hid hg
  clear hW hg hl hnl hN
  subst hlen
  obtain ⟨y, hy⟩ : ∃ d, l.getD 0 ty0 = d := ⟨_, rfl⟩
  obtain ⟨yb, yo, yp1, yc1, yp2, yc2, ye, ylt, yf0, yf1, yf2, yf3, yf4, yf5, yv⟩ := TySN.elem HL.out (show 0 < l.length by rw [← HNL.out]; omega) hy
  obtain ⟨z, hz⟩ : ∃ d, l.getD 1 ty0 = d := ⟨_, rfl⟩
  obtain ⟨zb, zo, zp1, zc1, zp2, zc2, ze, zlt, zf0, zf1, zf2, zf3, zf4, zf5, zv⟩ := TySN.elem HL.out (show 1 < l.length by rw [← HNL.out]; omega) hz
  subst ye
  cases ze
  have hcc : ∀ o, W.cell? ⟨yb, o, none⟩ = w.cell? ⟨yb, o, none⟩ := fun o => HBW.out.cell (p := ⟨yb, o, none⟩) ylt
  have hll : l = [y, z] := by
    have h1 := HNL.out
    match l, h1, hy, hz with
    | [x1, x2], _, hy, hz => simp at hy hz; rw [hy, hz]
  have C : ∀ w1, Below W.heap.size W w1 → Calls Tryd.prog 25 #[.agg #[.bool y.all, .int .i64 y.flat, .int .i64 y.pair, .slice yp1 y.pairs.length yc1, .int .i64 y.fn, .slice yp2 y.funs.length yc2], .agg #[.bool z.all, .int .i64 z.flat, .int .i64 z.pair, .slice zp1 z.pairs.length zc1, .int .i64 z.fn, .slice zp2 z.funs.length zc2]] w1 (TyPost (fun b => N b ∨ b = g) (.mk false 0 1 [y, z] 0 []) w1) := fun w1 hb =>
    pair_p (fun b => N b ∨ b = g) y z _ _ w1 (fun b h => Nat.lt_of_lt_of_le (HNW.out b h) hb.size) (yv.later (HBW.out.trans (hb.mono HBW.out.size)) fun b h => h.imp id fun h => by rw [h, HG.out]; omega) (zv.later (HBW.out.trans (hb.mono HBW.out.size)) fun b h => h.imp id fun h => by rw [h, HG.out]; omega)
  obtain ⟨y1, hy1⟩ : ∃ q, q = y.pairs.length := ⟨_, rfl⟩
  obtain ⟨y2, hy2⟩ : ∃ q, q = y.funs.length := ⟨_, rfl⟩
  obtain ⟨z1, hz1⟩ : ∃ q, q = z.pairs.length := ⟨_, rfl⟩
  obtain ⟨z2, hz2⟩ : ∃ q, q = z.funs.length := ⟨_, rfl⟩
  rw [← hy1, ← hy2, ← hz1, ← hz2] at C
  rw [← hy1] at yf3
  rw [← hy2] at yf5
  rw [← hz1] at zf3
  rw [← hz2] at zf5
  simp only [Nat.zero_mul, Nat.add_zero] at yf0 yf1 yf2 yf3 yf4 yf5
  simp only [Nat.one_mul, Nat.add_assoc, Nat.reduceAdd] at zf0 zf1 zf2 zf3 zf4 zf5
  have e0 := (hcc _).trans yf0
  have e1 := (hcc _).trans yf1
  have e2 := (hcc _).trans yf2
  have e3 := (hcc _).trans yf3
  have e4 := (hcc _).trans yf4
  have e5 := (hcc _).trans yf5
  have f0 := (hcc _).trans zf0
  have f1 := (hcc _).trans zf1
  have f2 := (hcc _).trans zf2
  have f3 := (hcc _).trans zf3
  have f4 := (hcc _).trans zf4
  have f5 := (hcc _).trans zf5
  have HC := Lib.hid C
  have HLL := Lib.hid hll
  have hbl : yb < W.heap.size := Nat.lt_of_lt_of_le ylt HBW.out.size
  have hgl : g < W.heap.size := HR.out.lt
  clear C hll hy hz yv zv hy1 hy2 hz1 hz2 hcc yf0 yf1 yf2 yf3 yf4 yf5 zf0 zf1 zf2 zf3 zf4 zf5 zlt
  go_enter Tryd.func62, Tryd.ntmps62
  go_wp2_with fail
  rw [← HG.out, ← HW.out]
  go_still_tail 6, (by kernel_rfl)
  change wpList _ _ _ _ _ W.drew
  go_wp2_with fail
  refine (HC.out _ (Below.refl _ _).drew).mono ?_
  rintro e w9 ⟨⟨v, rfl, hv9⟩, hb9⟩
  obtain ⟨qa, qc, ma, mc, rfl⟩ := pair_form hv9
  have hr := (HR.out.keep (Below.refl _ _).drew).keep hb9
  have r0 := hr.c0
  have r1 := hr.c1
  have r2 := hr.c2
  have r3 := hr.c3
  have r4 := hr.c4
  have r5 := hr.c5
  have rf := hr.fr
  have HV := Lib.hid hv9
  have HB9 := Lib.hid (HBW.out.trans (((Below.refl W.heap.size W).drew.trans hb9).mono HBW.out.size))
  clear hv9 hb9 hr e0 e1 e2 e3 e4 e5 f0 f1 f2 f3 f4 f5
  go_wp2
  refine bodyPost_ret (v := .tuple #[.agg #[.bool false, .int .i64 0, .int .i64 1, .slice qa 2 qc, .int .i64 0, .slice ma 0 mc], .bool true]) (by simp [results, Tryd.results62, go_sem, r0, r1, r2, r3, r4, r5]) rfl ⟨⟨_, rfl, ?_⟩, Below.set6 (g := g) HB9.out (by rw [HG.out]; omega)⟩
  rw [HLL.out]
  exact (TyVN.set6 (g := g) HV.out (.inr rfl)).mono fun _ _ h => .inl h

set_option maxRecDepth 100000 in
set_option maxHeartbeats 16000000 in
theorem formed_nArrow (N : Nat → Prop) (l : List Ty) (a : Option Addr) (c : Nat) (w : World) (hN : ∀ b, N b → b < w.heap.size) (hl : TyS w (Lo N w) (.slice a l.length c) l) (hlen : 1 ≤ l.length ∧ l.length ≤ 100000 ∧ l.length ≤ c) : Calls Tryd.prog 62 #[.string ⟨nArrow.toArray⟩, .slice a l.length c] w (NamPost N (.mk false 0 0 [] 1 l) w) := by
  obtain ⟨W, hW⟩ : ∃ W, W = w.alloc (.cells #[.bool false, .int .i64 0, .int .i64 0, (.slice none 0 0), .int .i64 0, (.slice none 0 0)] 24) := ⟨_, rfl⟩
  obtain ⟨g, hg⟩ : ∃ g, g = w.heap.size := ⟨_, rfl⟩
  obtain ⟨nl, hnl⟩ : ∃ n, n = l.length := ⟨_, rfl⟩
  have HBW := Lib.hid (show Below w.heap.size w W by rw [hW]; exact (Below.refl _ _).alloc (Nat.le_refl _) _)
  have HR := Lib.hid (show BoxAt W g false 0 0 (.slice none 0 0) 0 (.slice none 0 0) by rw [hW, hg]; exact BoxAt.made _ _ _ _ _ _ _)
  have HNW := Lib.hid (show ∀ b, (N b ∨ b = g) → b < W.heap.size from fun b h => h.elim (fun h => Nat.lt_of_lt_of_le (hN b h) HBW.out.size) (fun h => by rw [h]; exact HR.out.lt))
  rw [← hnl] at hl hlen ⊢
  obtain ⟨m, rfl⟩ : ∃ m, nl = m + 1 := ⟨nl - 1, by omega⟩
  have HLE := Lib.hid (show m + 1 ≤ 100000 ∧ m + 1 ≤ c by omega)
  clear hlen
  have HL := Lib.hid hl
  have HNL := Lib.hid hnl
  have HW := Lib.hid hW
  have HG := Lib.hid hg
  clear hW hg hl hnl hN
  obtain ⟨y, hy⟩ : ∃ d, l.getD m ty0 = d := ⟨_, rfl⟩
  obtain ⟨yb, yo, yp1, yc1, yp2, yc2, ye, ylt, yf0, yf1, yf2, yf3, yf4, yf5, yv⟩ := TySN.elem HL.out (show m < l.length by rw [← HNL.out]; omega) hy
  subst ye
  have hcc : ∀ o, W.cell? ⟨yb, o, none⟩ = w.cell? ⟨yb, o, none⟩ := fun o => HBW.out.cell (p := ⟨yb, o, none⟩) ylt
  have hll : l = l.take m ++ [y] := by
    have h1 : m < l.length := by rw [← HNL.out]; omega
    have h2 : l.take (m + 1) = l.take m ++ [l[m]] := List.take_succ_eq_append_getElem h1
    have h3 : l.take (m + 1) = l := by rw [HNL.out, List.take_length]
    have h4 : l[m] = y := by rw [← hy]; simp [List.getD_eq_getElem?_getD, h1]
    rw [h4, h3] at h2; exact h2
  have hl2 : (l.take m).length = m := by rw [List.length_take, ← HNL.out]; omega
  have C : ∀ w1, Below W.heap.size W w1 → Calls Tryd.prog 26 #[.agg #[.bool y.all, .int .i64 y.flat, .int .i64 y.pair, .slice yp1 y.pairs.length yc1, .int .i64 y.fn, .slice yp2 y.funs.length yc2], .slice (some ⟨yb, yo, none⟩) m c] w1 (TyPost (fun b => N b ∨ b = g) (.mk false 0 0 [] 1 l) w1) := fun w1 hb => by
    have hbw := HBW.out.trans (hb.mono HBW.out.size)
    have h1 : TyS w (Lo N w) (.slice (some ⟨yb, yo, none⟩) l.length c) l := by rw [← HNL.out]; exact HL.out
    have h2 := TyS.take h1 m (by rw [← HNL.out]; omega) c (by have := TyS.room h1; rw [← HNL.out] at this; omega)
    have h3 := fun_p (fun b => N b ∨ b = g) y _ (l.take m) (some ⟨yb, yo, none⟩) c w1 (fun b h => Nat.lt_of_lt_of_le (HNW.out b h) hb.size) (yv.later hbw fun b h => h.imp id fun h => by rw [h, HG.out]; omega) (by rw [hl2]; exact TySN.later h2 hbw fun b h => h.imp id fun h => by rw [h, HG.out]; omega) (by rw [hl2]; have := HLE.out; omega) (fun h => by cases h)
    rw [hl2, ← hll] at h3
    exact h3
  obtain ⟨y1, hy1⟩ : ∃ q, q = y.pairs.length := ⟨_, rfl⟩
  obtain ⟨y2, hy2⟩ : ∃ q, q = y.funs.length := ⟨_, rfl⟩
  rw [← hy1, ← hy2] at C
  rw [← hy1] at yf3
  rw [← hy2] at yf5
  have e0 := (hcc _).trans yf0
  have e1 := (hcc _).trans yf1
  have e2 := (hcc _).trans yf2
  have e3 := (hcc _).trans yf3
  have e4 := (hcc _).trans yf4
  have e5 := (hcc _).trans yf5
  have HC := Lib.hid C
  have hw : IntKind.i64.wrap (m : Int) = m := by rw [IntKind.wrap_i64]; have := HLE.out; omega
  have hm0 : (0 : Int) ≤ (m : Int) := by omega
  have hm1 : (m : Int) < (m : Int) + 1 := by omega
  have hm2 : (m : Int) ≤ (c : Int) := by have := HLE.out; omega
  have hm3 : m ≤ c := by have := HLE.out; omega
  have hm4 : (0 : Int) < (m : Int) + 1 := by omega
  have hm5 : (m : Int) ≤ 100000 := by have := HLE.out; omega
  clear C hll hl2 hy yv hy1 hy2 hcc yf0 yf1 yf2 yf3 yf4 yf5
  go_enter Tryd.func62, Tryd.ntmps62
  go_wp2_with fail
  rw [← HG.out, ← HW.out]
  go_still_tail 9, (by kernel_rfl)
  change wpList _ _ _ _ _ W.drew
  go_wp2_with fail
  refine (HC.out _ (Below.refl _ _).drew).mono ?_
  rintro e w9 ⟨⟨v, rfl, hv9⟩, hb9⟩
  obtain ⟨va, vf, vp, vpa, vnp, vpc, vk, vfa, vnf, vfc, rfl⟩ := hv9.shape
  have hr := (HR.out.keep (Below.refl _ _).drew).keep hb9
  have r0 := hr.c0
  have r1 := hr.c1
  have r2 := hr.c2
  have r3 := hr.c3
  have r4 := hr.c4
  have r5 := hr.c5
  have rf := hr.fr
  have HV := Lib.hid hv9
  have HB9 := Lib.hid (HBW.out.trans (((Below.refl W.heap.size W).drew.trans hb9).mono HBW.out.size))
  clear hv9 hb9 hr e0 e1 e2 e3 e4 e5 hw
  go_wp2
  refine bodyPost_ret (v := .tuple #[.agg #[.bool va, .int .i64 vf, .int .i64 vp, .slice vpa vnp vpc, .int .i64 vk, .slice vfa vnf vfc], .bool true]) (by simp [results, Tryd.results62, go_sem, r0, r1, r2, r3, r4, r5]) rfl ⟨⟨_, rfl, ?_⟩, Below.set6 (g := g) HB9.out (by rw [HG.out]; omega)⟩
  exact (TyVN.set6 (g := g) HV.out (.inr rfl)).mono fun _ _ h => .inl h

theorem formed_p (N : Nat → Prop) (s : List UInt8) (l : List Ty) (t : Ty) (h : formP s l = some t) (a : Option Addr) (c : Nat) (w : World) (hN : ∀ b, N b → b < w.heap.size) (hl : TyS w (Lo N w) (.slice a l.length c) l) (hlen : l.length ≤ 100000) (hc : l.length ≤ c) : Calls Tryd.prog 62 #[.string ⟨s.toArray⟩, .slice a l.length c] w (NamPost N t w) := by
  unfold formP at h
  split at h
  · rename_i e; subst e; cases h; exact formed_nU N l a c w hN hl
  split at h
  · rename_i e; subst e
    split at h
    · rename_i e; cases h; exact formed_nPair N l a c w hN hl e
    · cases h
  split at h
  · rename_i e; subst e
    split at h
    · rename_i e; cases h; exact formed_nList N l a c w hN hl e
    · cases h
  split at h
  · rename_i e; subst e
    split at h
    · rename_i e; cases h; exact formed_nList1 N l a c w hN hl e
    · cases h
  split at h
  · rename_i e; subst e
    split at h
    · rename_i e; cases h; exact formed_nArrow N l a c w hN hl ⟨e, hlen, hc⟩
    · cases h
  cases h
end Go.Proofs.YtdjhjapfmbcmlaaDoor
