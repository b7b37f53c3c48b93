import Derived.Test.YtgjkobkcmgliaaaNwF
namespace Go.Proofs.Ytgjkobkcmgliaaa
open Go.RowKit

/-- a prop handed back -/
def PrPost (P : Prp) (w : World) (e : Ending) (w' : World) : Prop := (∃ v, e = .returned v ∧ PrB w.heap.size w' v P) ∧ Below w.heap.size w w'
/-- a prop is laid in the cell of the result -/
theorem pr_done {w wr : World} {r B n1 c1 n2 c2 : Nat} {a1 a2 : Option Addr} {P : Prp} {b1 b2 : Bool} {x1 x2 x3 x4 : Value} (hr : w.heap.size ≤ r) (hrB : r < B) (hn1 : n1 = P.th.l.length) (hn2 : n2 = P.el.l.length) (hb1 : b1 = P.th.never) (hb2 : b2 = P.el.never)
    (h1 : FaB B wr (.slice a1 n1 c1) P.th.l) (h2 : FaB B wr (.slice a2 n2 c2) P.el.l) (hb : Below w.heap.size w wr) :
    PrPost P w (.returned (.agg #[.bool b1, .slice a1 n1 c1, .bool b2, .slice a2 n2 c2])) ((((wr.setCell ⟨r, 0, none⟩ x1).setCell ⟨r, 1, none⟩ x2).setCell ⟨r, 2, none⟩ x3).setCell ⟨r, 3, none⟩ x4) := by
  subst hn1 hn2 hb1 hb2
  have key : ∀ {a n c l}, FaB B wr (.slice a n c) l → FaB w.heap.size ((((wr.setCell ⟨r, 0, none⟩ x1).setCell ⟨r, 1, none⟩ x2).setCell ⟨r, 2, none⟩ x3).setCell ⟨r, 3, none⟩ x4) (.slice a n c) l := fun h =>
    ((((h.set (p := ⟨r, 0, none⟩) hrB _).set (p := ⟨r, 1, none⟩) hrB _).set (p := ⟨r, 2, none⟩) hrB _).set (p := ⟨r, 3, none⟩) hrB _).mono (by omega)
  exact ⟨⟨_, rfl, a1, c1, a2, c2, rfl, key h1, key h2⟩, (((hb.setCell (p := ⟨r, 0, none⟩) hr _).setCell (p := ⟨r, 1, none⟩) hr _).setCell (p := ⟨r, 2, none⟩) hr _).setCell (p := ⟨r, 3, none⟩) hr _⟩
/-- one fact, just laid -/
theorem FaB.one {w : World} (x y : Int) (T : TypeId) : FaB w.heap.size (w.alloc (.cells #[.int .i64 x, .int .i64 y] T)) (.slice (some ⟨w.heap.size, 0, none⟩) 1 1) [(x, y)] := by
  have h : (w.alloc (.cells #[.int .i64 x, .int .i64 y] T)).heap[w.heap.size]? = some (.cells #[.int .i64 x, .int .i64 y] T (0, 0)) := alloc_at rfl
  refine .inr ⟨w.heap.size, 0, 1, rfl, Nat.le_refl _, by simp, by unfold maxLen; simp, Nat.le_refl _, fun j hj => ?_⟩
  obtain rfl : j = 0 := by simpa using hj
  exact ⟨Lib.cell_of_heap h 0, Lib.cell_of_heap h 1⟩
theorem nrm_one (v g h : Int) (e : lowN g = lowN h) : nrm ([(v, g)] ++ []) = nrm [(v, h)] := nrm_of (nrm_norm _) fun u => by rw [lk_nrm, List.append_nil, lk_cons, lk_cons, e]
theorem low_not (g : Int) : lowN (255 - (lowN g : Int)) = lowN (-1 - g) := by unfold lowN; omega
theorem nrm_truth (v : Int) : nrm [(v, 2)] = [(v, 2)] := nrm_self ⟨List.pairwise_singleton .., fun f hf => by rw [List.mem_singleton.1 hf]; exact ⟨by show (0 : Int) ≤ 2; omega, by show (2 : Int) ≤ 254; omega⟩⟩

set_option maxRecDepth 100000 in
set_option maxHeartbeats 8000000 in
theorem refis_go (v g : Int) (w : World) : Calls Try.prog 40 #[.int .i64 v, .int .i64 g] w (PrPost (isP v g) w) := by
  obtain ⟨y, hy⟩ : ∃ y : Int, y = (lowN g : Int) := ⟨_, rfl⟩
  have hlow : ∀ w, Calls Try.prog 54 #[.int .i64 g] w fun e w' => e = .returned (.int .i64 y) ∧ w' = w := fun w => by rw [hy]; exact low_any g w
  have hyr : 0 ≤ y ∧ y ≤ 255 := by rw [hy]; exact low_rng g
  have e1 : andF ⟨false, [(v, y)]⟩ fcs0 = stateF v g := by
    show (⟨false, nrm ([(v, y)] ++ [])⟩ : Fcs) = ⟨false, nrm [(v, g)]⟩
    rw [nrm_one v y g (by rw [hy, lowN_low])]
  have e2 : andF ⟨false, [(v, 255 - y)]⟩ fcs0 = stateF v (-1 - g) := by
    show (⟨false, nrm ([(v, 255 - y)] ++ [])⟩ : Fcs) = ⟨false, nrm [(v, -1 - g)]⟩
    rw [nrm_one v _ (-1 - g) (by rw [hy, low_not])]
  obtain ⟨W, hW⟩ : ∃ W, W = (w.alloc (.cells #[.bool false, .slice none 0 0, .bool false, .slice none 0 0] 38)).alloc (.cells #[.int .i64 v, .int .i64 y] 76) := ⟨_, rfl⟩
  have hbr : Bx W w.heap.size 38 #[.bool false, .slice none 0 0, .bool false, .slice none 0 0] := by rw [hW]; exact alloc_past (alloc_at rfl) (by simp)
  have hbl : Below w.heap.size w W := by rw [hW]; exact ((Below.refl _ _).alloc (Nat.le_refl _) _).alloc (by simp) _
  have hf : FaB (w.heap.size + 1) W (.slice (some ⟨w.heap.size + 1, 0, none⟩) 1 1) [(v, y)] := by
    have := FaB.one (w := w.alloc (.cells #[.bool false, .slice none 0 0, .bool false, .slice none 0 0] 38)) v y 76
    rw [size_alloc] at this
    rw [hW]; exact this
  have hsz : W.heap.size = w.heap.size + 1 + 1 := by rw [hW]; simp
  have HC := Lib.hid (and_go _ 0 _ none _ 0 1 0 ⟨false, [(v, y)]⟩ fcs0 W (by omega) rfl rfl hf (FaB.nil 0 W none 0))
  have HR := Lib.hid hbr
  have HL := Lib.hid hbl
  have HSZ := Lib.hid hsz
  have HW := Lib.hid hW
  have HE1 := Lib.hid e1
  have HE2 := Lib.hid e2
  have HLOW := Lib.hid hlow
  have hy0 := hyr.1
  have hy1 := hyr.2
  clear hbr hbl hf hsz hW e1 e2 hlow hy hyr
  go_enter Try.func40, Try.ntmps40
  go_wp2_with (go_at_call 54; refine (HLOW.out _).mono ?_; rintro e w' ⟨rfl, h9⟩; rw [h9]; clear h9 w')
  rw [← HW.out]
  refine HC.out.mono ?_
  rintro e w1 ⟨⟨v1, rfl, va, vc, rfl, hfa⟩, hb1⟩
  rw [HE1.out] at hfa ⊢
  obtain ⟨n1, hn1⟩ : ∃ n, n = (stateF v g).l.length := ⟨_, rfl⟩
  rw [← hn1] at hfa ⊢
  have HN1 := Lib.hid hn1
  have HB1 := Lib.hid hb1
  have HFA := Lib.hid hfa
  clear hn1 hb1 hfa HE1 HC HW
  go_wp2_with (go_at_call 54; refine (HLOW.out _).mono ?_; rintro e w' ⟨rfl, h9⟩; rw [h9]; clear h9 w')
  obtain ⟨W2, hW2⟩ : ∃ W2, W2 = w1.alloc (.cells #[.int .i64 v, .int .i64 (255 - y)] 76) := ⟨_, rfl⟩
  have hb2 : Below w1.heap.size w1 W2 := by rw [hW2]; exact (Below.refl _ _).alloc (Nat.le_refl _) _
  have hf2 : FaB w1.heap.size W2 (.slice (some ⟨w1.heap.size, 0, none⟩) 1 1) [(v, 255 - y)] := by rw [hW2]; exact FaB.one _ _ _
  rw [← hW2]
  refine (and_go _ 0 _ none _ 0 1 0 ⟨false, [(v, 255 - y)]⟩ fcs0 W2 (by omega) rfl rfl hf2 (FaB.nil 0 W2 none 0)).mono ?_
  rintro e w3 ⟨⟨v3, rfl, ua, uc, rfl, hfu⟩, hb3⟩
  rw [HE2.out] at hfu ⊢
  obtain ⟨n2, hn2⟩ : ∃ n, n = (stateF v (-1 - g)).l.length := ⟨_, rfl⟩
  rw [← hn2] at hfu ⊢
  have hb13 := hb2.trans (hb3.mono hb2.size)
  have hr3 := (HR.out.keep HB1.out).keep hb13
  have r0 := hr3.d0
  have r1 := hr3.d1
  have r2 := hr3.d2
  have r3 := hr3.d3
  have f0 := hr3.fr 0
  have f1 := hr3.fr 1
  have f2 := hr3.fr 2
  have f3 := hr3.fr 3
  have HN2 := Lib.hid hn2
  have HF1 := Lib.hid (HFA.out.below hb13)
  have HF2 := Lib.hid hfu
  have HBB := Lib.hid (HL.out.trans ((HB1.out.trans (hb13.mono HB1.out.size)).mono HL.out.size))
  have HSS := Lib.hid (show W.heap.size ≤ W2.heap.size from Nat.le_trans HB1.out.size hb2.size)
  clear hb13 hr3 hfu hb3 hb2 hf2 hn2 hW2 HLOW
  rw [show (stateF v g).never = false from rfl, show (stateF v (-1 - g)).never = false from rfl]
  go_wp2
  refine bodyPost_ret (v := .agg #[.bool false, .slice va n1 vc, .bool false, .slice ua n2 uc]) ?_ ?_ ?_
  · simp [results, Try.results40, go_sem, r0, r1, r2, r3]
  · rfl
  · exact pr_done (P := isP v g) (B := W.heap.size) (Nat.le_refl _) (by have := HSZ.out; omega) HN1.out HN2.out rfl rfl HF1.out (HF2.out.mono HSS.out) HBB.out

set_option maxRecDepth 100000 in
set_option maxHeartbeats 4000000 in
theorem refconst_go (b : Bool) (w : World) : Calls Try.prog 42 #[.bool b] w (PrPost (constP b) w) := by
  cases b
  all_goals
    go_enter Try.func42, Try.ntmps42
    go_wp2
  · refine bodyPost_ret (v := .agg #[.bool true, .slice none 0 0, .bool false, .slice none 0 0]) ?_ ?_ ?_
    · simp [results, Try.results42, go_sem]
    · rfl
    · exact ⟨⟨_, rfl, none, 0, none, 0, rfl, FaB.nil _ _ _ _, FaB.nil _ _ _ _⟩, (Below.refl _ _).alloc (Nat.le_refl _) _⟩
  · refine bodyPost_ret (v := .agg #[.bool false, .slice none 0 0, .bool true, .slice none 0 0]) ?_ ?_ ?_
    · simp [results, Try.results42, go_sem]
    · rfl
    · exact ⟨⟨_, rfl, none, 0, none, 0, rfl, FaB.nil _ _ _ _, FaB.nil _ _ _ _⟩, (Below.refl _ _).alloc (Nat.le_refl _) _⟩

set_option maxRecDepth 100000 in
set_option maxHeartbeats 4000000 in
theorem reftruth_go (v : Int) (w : World) : Calls Try.prog 41 #[.int .i64 v] w (PrPost (truthP v) w) := by
  go_enter Try.func41, Try.ntmps41
  go_wp2
  refine bodyPost_ret (v := .agg #[.bool false, .slice none 0 0, .bool false, .slice (some ⟨w.heap.size + 1, 0, none⟩) 1 1]) ?_ ?_ ?_
  · simp [results, Try.results41, go_sem]
  · rfl
  · have h := FaB.one (w := w.alloc (.cells #[.bool false, .slice none 0 0, .bool false, .slice (some ⟨w.heap.size + 1, 0, none⟩) 1 1] 38)) v 2 76
    rw [size_alloc] at h
    have e : (truthP v).el.l = [(v, 2)] := nrm_truth v
    refine ⟨⟨_, rfl, none, 0, some ⟨w.heap.size + 1, 0, none⟩, 1, ?_, FaB.nil _ _ _ _, ?_⟩, ((Below.refl _ _).alloc (Nat.le_refl _) _).alloc (by simp) _⟩
    · rw [e]; rfl
    · rw [e]; exact h.mono (by omega)

set_option maxRecDepth 100000 in
set_option maxHeartbeats 4000000 in
theorem refnot_go (B : Nat) (a c : Option Addr) (n1 c1 n2 c2 : Nat) (p : Prp) (w : World) (hn1 : n1 = p.th.l.length) (hn2 : n2 = p.el.l.length) (h1 : FaB B w (.slice a n1 c1) p.th.l) (h2 : FaB B w (.slice c n2 c2) p.el.l) :
    Calls Try.prog 43 #[.agg #[.bool p.th.never, .slice a n1 c1, .bool p.el.never, .slice c n2 c2]] w fun e w' => (∃ v, e = .returned v ∧ PrB B w' v (notP p)) ∧ Below w.heap.size w w' := by
  obtain ⟨b1, hb1⟩ : ∃ b, b = p.th.never := ⟨_, rfl⟩
  obtain ⟨b2, hb2⟩ : ∃ b, b = p.el.never := ⟨_, rfl⟩
  rw [← hb1, ← hb2]
  have H1 := Lib.hid h1
  have H2 := Lib.hid h2
  have HN1 := Lib.hid hn1
  have HN2 := Lib.hid hn2
  have HB1 := Lib.hid hb1
  have HB2 := Lib.hid hb2
  clear h1 h2 hn1 hn2 hb1 hb2
  go_enter Try.func43, Try.ntmps43
  go_wp2
  refine bodyPost_ret (v := .agg #[.bool b2, .slice c n2 c2, .bool b1, .slice a n1 c1]) ?_ ?_ ?_
  · simp [results, Try.results43, go_sem]
  · rfl
  · have hb : ∀ x y, Below w.heap.size w ((w.alloc x).alloc y) := fun x y => ((Below.refl _ _).alloc (Nat.le_refl _) x).alloc (by simp) y
    refine ⟨⟨_, rfl, c, c2, a, c1, ?_, ?_, ?_⟩, hb _ _⟩
    · rw [HB1.out, HB2.out, HN1.out, HN2.out]; rfl
    · show FaB B _ (.slice c p.el.l.length c2) p.el.l
      rw [← HN2.out]; exact H2.out.below (hb _ _)
    · show FaB B _ (.slice a p.th.l.length c1) p.th.l
      rw [← HN1.out]; exact H1.out.below (hb _ _)

set_option maxRecDepth 100000 in
set_option maxHeartbeats 32000000 in
theorem refif_go (BX BY BZ : Nat) (x1 x2 : Option Addr) (xn1 xc1 xn2 xc2 : Nat) (xp : Prp) (y1 y2 : Option Addr) (yn1 yc1 yn2 yc2 : Nat) (yp : Prp) (z1 z2 : Option Addr) (zn1 zc1 zn2 zc2 : Nat) (zp : Prp) (w : World) (hxn1 : xn1 = xp.th.l.length) (hxn2 : xn2 = xp.el.l.length) (hxb1 : xn1 ≤ 1000) (hxb2 : xn2 ≤ 1000) (hx1 : FaB BX w (.slice x1 xn1 xc1) xp.th.l) (hx2 : FaB BX w (.slice x2 xn2 xc2) xp.el.l) (hyn1 : yn1 = yp.th.l.length) (hyn2 : yn2 = yp.el.l.length) (hyb1 : yn1 ≤ 1000) (hyb2 : yn2 ≤ 1000) (hy1 : FaB BY w (.slice y1 yn1 yc1) yp.th.l) (hy2 : FaB BY w (.slice y2 yn2 yc2) yp.el.l) (hzn1 : zn1 = zp.th.l.length) (hzn2 : zn2 = zp.el.l.length) (hzb1 : zn1 ≤ 1000) (hzb2 : zn2 ≤ 1000) (hz1 : FaB BZ w (.slice z1 zn1 zc1) zp.th.l) (hz2 : FaB BZ w (.slice z2 zn2 zc2) zp.el.l) :
    Calls Try.prog 44 #[.agg #[.bool xp.th.never, .slice x1 xn1 xc1, .bool xp.el.never, .slice x2 xn2 xc2], .agg #[.bool yp.th.never, .slice y1 yn1 yc1, .bool yp.el.never, .slice y2 yn2 yc2], .agg #[.bool zp.th.never, .slice z1 zn1 zc1, .bool zp.el.never, .slice z2 zn2 zc2]] w (PrPost (ifP xp yp zp) w) := by
  obtain ⟨xF, hxF⟩ : ∃ F, F = xp.th := ⟨_, rfl⟩
  obtain ⟨xG, hxG⟩ : ∃ F, F = xp.el := ⟨_, rfl⟩
  rw [← hxF] at hxn1 hx1 ⊢
  rw [← hxG] at hxn2 hx2 ⊢
  obtain ⟨yF, hyF⟩ : ∃ F, F = yp.th := ⟨_, rfl⟩
  obtain ⟨yG, hyG⟩ : ∃ F, F = yp.el := ⟨_, rfl⟩
  rw [← hyF] at hyn1 hy1 ⊢
  rw [← hyG] at hyn2 hy2 ⊢
  obtain ⟨zF, hzF⟩ : ∃ F, F = zp.th := ⟨_, rfl⟩
  obtain ⟨zG, hzG⟩ : ∃ F, F = zp.el := ⟨_, rfl⟩
  rw [← hzF] at hzn1 hz1 ⊢
  rw [← hzG] at hzn2 hz2 ⊢
  have HIF := Lib.hid (show ifP xp yp zp = ⟨orF (andF xF yF) (andF xG zF), orF (andF xF yG) (andF xG zG)⟩ by rw [hxF, hxG, hyF, hyG, hzF, hzG]; rfl)
  rw [HIF.out]
  clear hxF hxG hyF hyG hzF hzG
  obtain ⟨xb1, hx1v⟩ : ∃ b, b = xF.never := ⟨_, rfl⟩
  obtain ⟨xb2, hx2v⟩ : ∃ b, b = xG.never := ⟨_, rfl⟩
  rw [← hx1v, ← hx2v]
  obtain ⟨yb1, hy1v⟩ : ∃ b, b = yF.never := ⟨_, rfl⟩
  obtain ⟨yb2, hy2v⟩ : ∃ b, b = yG.never := ⟨_, rfl⟩
  rw [← hy1v, ← hy2v]
  obtain ⟨zb1, hz1v⟩ : ∃ b, b = zF.never := ⟨_, rfl⟩
  obtain ⟨zb2, hz2v⟩ : ∃ b, b = zG.never := ⟨_, rfl⟩
  rw [← hz1v, ← hz2v]
  obtain ⟨W, hW⟩ : ∃ W, W = (((w.alloc (.cells #[.bool xb1, .slice x1 xn1 xc1, .bool xb2, .slice x2 xn2 xc2] 38)).alloc (.cells #[.bool yb1, .slice y1 yn1 yc1, .bool yb2, .slice y2 yn2 yc2] 38)).alloc (.cells #[.bool zb1, .slice z1 zn1 zc1, .bool zb2, .slice z2 zn2 zc2] 38)).alloc (.cells #[.bool false, .slice none 0 0, .bool false, .slice none 0 0] 38) := ⟨_, rfl⟩
  have HBx := Lib.hid (show Bx W w.heap.size 38 #[.bool xb1, .slice x1 xn1 xc1, .bool xb2, .slice x2 xn2 xc2] by rw [hW]; exact alloc_past (alloc_past (alloc_past (alloc_at rfl) (by simp)) (by simp <;> omega)) (by simp <;> omega))
  have HBy := Lib.hid (show Bx W (w.heap.size + 1) 38 #[.bool yb1, .slice y1 yn1 yc1, .bool yb2, .slice y2 yn2 yc2] by rw [hW]; exact alloc_past (alloc_past (alloc_at (by simp)) (by simp)) (by simp <;> omega))
  have HBz := Lib.hid (show Bx W (w.heap.size + 1 + 1) 38 #[.bool zb1, .slice z1 zn1 zc1, .bool zb2, .slice z2 zn2 zc2] by rw [hW]; exact alloc_past (alloc_at (by simp)) (by simp))
  have HR := Lib.hid (show Bx W (w.heap.size + 1 + 1 + 1) 38 #[.bool false, .slice none 0 0, .bool false, .slice none 0 0] by rw [hW]; exact alloc_at (by simp))
  have hbl : Below w.heap.size w W := by rw [hW]; exact ((((Below.refl _ _).alloc (Nat.le_refl _) _).alloc (by simp) _).alloc (by simp <;> omega) _).alloc (by simp <;> omega) _
  have HSZ := Lib.hid (show W.heap.size = w.heap.size + 1 + 1 + 1 + 1 by rw [hW]; simp)
  have HW := Lib.hid hW
  have HL := Lib.hid hbl
  have Hx1 := Lib.hid (hx1.below hbl)
  have Hx2 := Lib.hid (hx2.below hbl)
  have HNx1 := Lib.hid hxn1
  have HNx2 := Lib.hid hxn2
  have HVx1 := Lib.hid hx1v
  have HVx2 := Lib.hid hx2v
  have Hy1 := Lib.hid (hy1.below hbl)
  have Hy2 := Lib.hid (hy2.below hbl)
  have HNy1 := Lib.hid hyn1
  have HNy2 := Lib.hid hyn2
  have HVy1 := Lib.hid hy1v
  have HVy2 := Lib.hid hy2v
  have Hz1 := Lib.hid (hz1.below hbl)
  have Hz2 := Lib.hid (hz2.below hbl)
  have HNz1 := Lib.hid hzn1
  have HNz2 := Lib.hid hzn2
  have HVz1 := Lib.hid hz1v
  have HVz2 := Lib.hid hz2v
  have HBD := Lib.hid (show xn1 ≤ 1000 ∧ xn2 ≤ 1000 ∧ yn1 ≤ 1000 ∧ yn2 ≤ 1000 ∧ zn1 ≤ 1000 ∧ zn2 ≤ 1000 from ⟨hxb1, hxb2, hyb1, hyb2, hzb1, hzb2⟩)
  clear hbl hW hx1 hx2 hxn1 hxn2 hx1v hx2v hxb1 hxb2 hy1 hy2 hyn1 hyn2 hy1v hy2v hyb1 hyb2 hz1 hz2 hzn1 hzn2 hz1v hz2v hzb1 hzb2
  go_enter Try.func44, Try.ntmps44
  go_upto_region 1 with fail
  rw [← HW.out]
  clear HW
  have BC := Lib.hid (show Below W.heap.size W W.drew from (Below.refl _ _).drew)
  (try dsimp only [List.append])
  refine wp_region_noPanic ?_
  refine wp_region_held_drew (S := (fun w' => w'.cell? ⟨w.heap.size, 0, none⟩ = some (.bool xb1) ∧ w'.cell? ⟨w.heap.size, 1, none⟩ = some (.slice x1 xn1 xc1) ∧ w'.cell? ⟨w.heap.size, 2, none⟩ = some (.bool xb2) ∧ w'.cell? ⟨w.heap.size, 3, none⟩ = some (.slice x2 xn2 xc2) ∧ w'.cell? ⟨w.heap.size + 1, 0, none⟩ = some (.bool yb1) ∧ w'.cell? ⟨w.heap.size + 1, 1, none⟩ = some (.slice y1 yn1 yc1) ∧ w'.cell? ⟨w.heap.size + 1, 2, none⟩ = some (.bool yb2) ∧ w'.cell? ⟨w.heap.size + 1, 3, none⟩ = some (.slice y2 yn2 yc2) ∧ w'.cell? ⟨w.heap.size + 1 + 1, 0, none⟩ = some (.bool zb1) ∧ w'.cell? ⟨w.heap.size + 1 + 1, 1, none⟩ = some (.slice z1 zn1 zc1) ∧ w'.cell? ⟨w.heap.size + 1 + 1, 2, none⟩ = some (.bool zb2) ∧ w'.cell? ⟨w.heap.size + 1 + 1, 3, none⟩ = some (.slice z2 zn2 zc2))) (by kernel_rfl) (by (try dsimp only); exact ⟨(HBx.out.keep BC.out).d0, (HBx.out.keep BC.out).d1, (HBx.out.keep BC.out).d2, (HBx.out.keep BC.out).d3, (HBy.out.keep BC.out).d0, (HBy.out.keep BC.out).d1, (HBy.out.keep BC.out).d2, (HBy.out.keep BC.out).d3, (HBz.out.keep BC.out).d0, (HBz.out.keep BC.out).d1, (HBz.out.keep BC.out).d2, (HBz.out.keep BC.out).d3⟩) (fun hHeld => ?_)
  refine' tk_any 0 7 (v := _) ?hi3001 ?hd3001 (by kernel_rfl) (by kernel_rfl) (by kernel_rfl) (fun _ _ _ h => h) ?hy3001 hHeld ?hr3001
  case hi3001 => (simp only [List.getElem?_toArray, List.getElem?_cons_zero]; rfl)
  case hd3001 => rfl
  case hy3001 =>
    refine' Or.inl ⟨?hw3001, ?hx3001⟩
    case hw3001 => rfl
    case hx3001 => (intro w hSw; (try dsimp only at hSw); go_simp; (try with_reducible rfl))
  (try simp only [Act.put, List.setIfInBounds_toArray, List.set_cons_zero, List.set_cons_succ])
  refine' tk_any 1 8 (v := _) ?hi3002 ?hd3002 (by kernel_rfl) (by kernel_rfl) (by kernel_rfl) (fun _ _ _ h => h) ?hy3002 hHeld ?hr3002
  case hi3002 => (simp only [List.getElem?_toArray, List.getElem?_cons_succ, List.getElem?_cons_zero]; rfl)
  case hd3002 => rfl
  case hy3002 =>
    refine' Or.inl ⟨?hw3002, ?hx3002⟩
    case hw3002 => rfl
    case hx3002 => (intro w hSw; (try dsimp only at hSw); go_simp; (try with_reducible rfl))
  (try simp only [Act.put, List.setIfInBounds_toArray, List.set_cons_zero, List.set_cons_succ])
  refine' tk_any 2 9 (v := _) ?hi3003 ?hd3003 (by kernel_rfl) (by kernel_rfl) (by kernel_rfl) (fun _ _ _ h => h) ?hy3003 hHeld ?hr3003
  case hi3003 => (simp only [List.getElem?_toArray, List.getElem?_cons_succ, List.getElem?_cons_zero]; rfl)
  case hd3003 => rfl
  case hy3003 =>
    refine' Or.inl ⟨?hw3003, ?hx3003⟩
    case hw3003 => rfl
    case hx3003 => (intro w hSw; (try dsimp only at hSw); go_simp; (try with_reducible rfl))
  (try simp only [Act.put, List.setIfInBounds_toArray, List.set_cons_zero, List.set_cons_succ])
  refine' tk_any 3 10 (v := _) ?hi3004 ?hd3004 (by kernel_rfl) (by kernel_rfl) (by kernel_rfl) (fun _ _ _ h => h) ?hy3004 hHeld ?hr3004
  case hi3004 => (simp only [List.getElem?_toArray, List.getElem?_cons_succ, List.getElem?_cons_zero]; rfl)
  case hd3004 => rfl
  case hy3004 =>
    refine' Or.inl ⟨?hw3004, ?hx3004⟩
    case hw3004 => rfl
    case hx3004 => (intro w hSw; (try dsimp only at hSw); go_simp; (try with_reducible rfl))
  (try simp only [Act.put, List.setIfInBounds_toArray, List.set_cons_zero, List.set_cons_succ])
  refine' tk_any 5 12 (v := _) ?hi3005 ?hd3005 (by kernel_rfl) (by kernel_rfl) (by kernel_rfl) (fun _ _ _ h => h) ?hy3005 hHeld ?hr3005
  case hi3005 => (simp only [List.getElem?_toArray, List.getElem?_cons_succ, List.getElem?_cons_zero]; rfl)
  case hd3005 => rfl
  case hy3005 =>
    refine' Or.inl ⟨?hw3005, ?hx3005⟩
    case hw3005 => rfl
    case hx3005 => (intro w hSw; (try dsimp only at hSw); go_simp; (try with_reducible rfl))
  (try simp only [Act.put, List.setIfInBounds_toArray, List.set_cons_zero, List.set_cons_succ])
  refine' tk_any 6 13 (v := _) ?hi3006 ?hd3006 (by kernel_rfl) (by kernel_rfl) (by kernel_rfl) (fun _ _ _ h => h) ?hy3006 hHeld ?hr3006
  case hi3006 => (simp only [List.getElem?_toArray, List.getElem?_cons_succ, List.getElem?_cons_zero]; rfl)
  case hd3006 => rfl
  case hy3006 =>
    refine' Or.inl ⟨?hw3006, ?hx3006⟩
    case hw3006 => rfl
    case hx3006 => (intro w hSw; (try dsimp only at hSw); go_simp; (try with_reducible rfl))
  (try simp only [Act.put, List.setIfInBounds_toArray, List.set_cons_zero, List.set_cons_succ])
  refine' tk_any 7 14 (v := _) ?hi3007 ?hd3007 (by kernel_rfl) (by kernel_rfl) (by kernel_rfl) (fun _ _ _ h => h) ?hy3007 hHeld ?hr3007
  case hi3007 => (simp only [List.getElem?_toArray, List.getElem?_cons_succ, List.getElem?_cons_zero]; rfl)
  case hd3007 => rfl
  case hy3007 =>
    refine' Or.inl ⟨?hw3007, ?hx3007⟩
    case hw3007 => rfl
    case hx3007 => (intro w hSw; (try dsimp only at hSw); go_simp; (try with_reducible rfl))
  (try simp only [Act.put, List.setIfInBounds_toArray, List.set_cons_zero, List.set_cons_succ])
  refine' tk_any 8 15 (v := _) ?hi3008 ?hd3008 (by kernel_rfl) (by kernel_rfl) (by kernel_rfl) (fun _ _ _ h => h) ?hy3008 hHeld ?hr3008
  case hi3008 => (simp only [List.getElem?_toArray, List.getElem?_cons_succ, List.getElem?_cons_zero]; rfl)
  case hd3008 => rfl
  case hy3008 =>
    refine' Or.inl ⟨?hw3008, ?hx3008⟩
    case hw3008 => rfl
    case hx3008 => (intro w hSw; (try dsimp only at hSw); go_simp; (try with_reducible rfl))
  (try simp only [Act.put, List.setIfInBounds_toArray, List.set_cons_zero, List.set_cons_succ])
  refine' tk_any 11 18 (v := _) ?hi3009 ?hd3009 (by kernel_rfl) (by kernel_rfl) (by kernel_rfl) (fun _ _ _ h => h) ?hy3009 hHeld ?hr3009
  case hi3009 => (simp only [List.getElem?_toArray, List.getElem?_cons_succ, List.getElem?_cons_zero]; rfl)
  case hd3009 => rfl
  case hy3009 =>
    refine' Or.inl ⟨?hw3009, ?hx3009⟩
    case hw3009 => rfl
    case hx3009 => (intro w hSw; (try dsimp only at hSw); go_simp; (try with_reducible rfl))
  (try simp only [Act.put, List.setIfInBounds_toArray, List.set_cons_zero, List.set_cons_succ])
  refine' tk_any 12 19 (v := _) ?hi3010 ?hd3010 (by kernel_rfl) (by kernel_rfl) (by kernel_rfl) (fun _ _ _ h => h) ?hy3010 hHeld ?hr3010
  case hi3010 => (simp only [List.getElem?_toArray, List.getElem?_cons_succ, List.getElem?_cons_zero]; rfl)
  case hd3010 => rfl
  case hy3010 =>
    refine' Or.inl ⟨?hw3010, ?hx3010⟩
    case hw3010 => rfl
    case hx3010 => (intro w hSw; (try dsimp only at hSw); go_simp; (try with_reducible rfl))
  (try simp only [Act.put, List.setIfInBounds_toArray, List.set_cons_zero, List.set_cons_succ])
  refine' tk_any 13 20 (v := _) ?hi3011 ?hd3011 (by kernel_rfl) (by kernel_rfl) (by kernel_rfl) (fun _ _ _ h => h) ?hy3011 hHeld ?hr3011
  case hi3011 => (simp only [List.getElem?_toArray, List.getElem?_cons_succ, List.getElem?_cons_zero]; rfl)
  case hd3011 => rfl
  case hy3011 =>
    refine' Or.inl ⟨?hw3011, ?hx3011⟩
    case hw3011 => rfl
    case hx3011 => (intro w hSw; (try dsimp only at hSw); go_simp; (try with_reducible rfl))
  (try simp only [Act.put, List.setIfInBounds_toArray, List.set_cons_zero, List.set_cons_succ])
  refine' tk_any 14 21 (v := _) ?hi3012 ?hd3012 (by kernel_rfl) (by kernel_rfl) (by kernel_rfl) (fun _ _ _ h => h) ?hy3012 hHeld ?hr3012
  case hi3012 => (simp only [List.getElem?_toArray, List.getElem?_cons_succ, List.getElem?_cons_zero]; rfl)
  case hd3012 => rfl
  case hy3012 =>
    refine' Or.inl ⟨?hw3012, ?hx3012⟩
    case hw3012 => rfl
    case hx3012 => (intro w hSw; (try dsimp only at hSw); go_simp; (try with_reducible rfl))
  (try simp only [Act.put, List.setIfInBounds_toArray, List.set_cons_zero, List.set_cons_succ])
  refine' tk_any 16 23 (v := _) ?hi3013 ?hd3013 (by kernel_rfl) (by kernel_rfl) (by kernel_rfl) (fun _ _ _ h => h) ?hy3013 hHeld ?hr3013
  case hi3013 => (simp only [List.getElem?_toArray, List.getElem?_cons_succ, List.getElem?_cons_zero]; rfl)
  case hd3013 => rfl
  case hy3013 =>
    refine' Or.inl ⟨?hw3013, ?hx3013⟩
    case hw3013 => rfl
    case hx3013 => (intro w hSw; (try dsimp only at hSw); go_simp; (try with_reducible rfl))
  (try simp only [Act.put, List.setIfInBounds_toArray, List.set_cons_zero, List.set_cons_succ])
  refine' tk_any 17 24 (v := _) ?hi3014 ?hd3014 (by kernel_rfl) (by kernel_rfl) (by kernel_rfl) (fun _ _ _ h => h) ?hy3014 hHeld ?hr3014
  case hi3014 => (simp only [List.getElem?_toArray, List.getElem?_cons_succ, List.getElem?_cons_zero]; rfl)
  case hd3014 => rfl
  case hy3014 =>
    refine' Or.inl ⟨?hw3014, ?hx3014⟩
    case hw3014 => rfl
    case hx3014 => (intro w hSw; (try dsimp only at hSw); go_simp; (try with_reducible rfl))
  (try simp only [Act.put, List.setIfInBounds_toArray, List.set_cons_zero, List.set_cons_succ])
  refine' tk_any 18 25 (v := _) ?hi3015 ?hd3015 (by kernel_rfl) (by kernel_rfl) (by kernel_rfl) (fun _ _ _ h => h) ?hy3015 hHeld ?hr3015
  case hi3015 => (simp only [List.getElem?_toArray, List.getElem?_cons_succ, List.getElem?_cons_zero]; rfl)
  case hd3015 => rfl
  case hy3015 =>
    refine' Or.inl ⟨?hw3015, ?hx3015⟩
    case hw3015 => rfl
    case hx3015 => (intro w hSw; (try dsimp only at hSw); go_simp; (try with_reducible rfl))
  (try simp only [Act.put, List.setIfInBounds_toArray, List.set_cons_zero, List.set_cons_succ])
  refine' tk_any 19 26 (v := _) ?hi3016 ?hd3016 (by kernel_rfl) (by kernel_rfl) (by kernel_rfl) (fun _ _ _ h => h) ?hy3016 hHeld ?hr3016
  case hi3016 => (simp only [List.getElem?_toArray, List.getElem?_cons_succ, List.getElem?_cons_zero]; rfl)
  case hd3016 => rfl
  case hy3016 =>
    refine' Or.inl ⟨?hw3016, ?hx3016⟩
    case hw3016 => rfl
    case hx3016 => (intro w hSw; (try dsimp only at hSw); go_simp; (try with_reducible rfl))
  (try simp only [Act.put, List.setIfInBounds_toArray, List.set_cons_zero, List.set_cons_succ])
  refine' tk_call 4 ?hi3017 (by kernel_rfl) ?hr3017
  case hi3017 => (simp only [List.getElem?_toArray, List.getElem?_cons_succ, List.getElem?_cons_zero]; rfl)
  intro K hK
  go_simp
  go_at_call 16
  refine ((show Calls _ _ #[.agg #[.bool xb1, .slice x1 xn1 xc1], .agg #[.bool yb1, .slice y1 yn1 yc1]] _ _ by rw [HVx1.out, HVy1.out]; exact and_go _ _ _ _ _ _ _ _ xF yF _ (by have := HBD.out; omega) HNx1.out HNy1.out (Hx1.out.below BC.out) (Hy1.out.below BC.out))).mono ?_
  rintro e wz1 ⟨⟨v, rfl, pa, pc, rfl, hf⟩, hb⟩
  obtain ⟨pF, hpF⟩ : ∃ F, F = andF xF yF := ⟨_, rfl⟩
  rw [← hpF] at hf ⊢
  obtain ⟨pn, hpn⟩ : ∃ n, n = pF.l.length := ⟨_, rfl⟩
  obtain ⟨pb, hpb⟩ : ∃ n, n = pF.never := ⟨_, rfl⟩
  rw [← hpn] at hf ⊢
  rw [← hpb]
  have HFp := Lib.hid (hf.mono (B' := W.heap.size) (by have := BC.out.size; omega))
  have HXp := Lib.hid hpF
  have HNp := Lib.hid hpn
  have HVp := Lib.hid hpb
  have HDp := Lib.hid (show pn ≤ 2000 by have h := andF_len xF yF; rw [← hpF, ← hpn, ← HNx1.out, ← HNy1.out] at h; have := HBD.out; omega)
  replace BC := Lib.hid (BC.out.trans (hb.mono BC.out.size))
  clear hb hf hpF hpn hpb
  go_wp2_with fail
  clear hHeld
  refine hK.out _ _ (by (try dsimp only); exact ⟨(HBx.out.keep BC.out).d0, (HBx.out.keep BC.out).d1, (HBx.out.keep BC.out).d2, (HBx.out.keep BC.out).d3, (HBy.out.keep BC.out).d0, (HBy.out.keep BC.out).d1, (HBy.out.keep BC.out).d2, (HBy.out.keep BC.out).d3, (HBz.out.keep BC.out).d0, (HBz.out.keep BC.out).d1, (HBz.out.keep BC.out).d2, (HBz.out.keep BC.out).d3⟩) (fun hHeld => ?_)
  clear hK K
  (try simp only [Act.put, List.setIfInBounds_toArray, List.set_cons_zero, List.set_cons_succ])
  refine' tk_call 9 ?hi3018 (by kernel_rfl) ?hr3018
  case hi3018 => (simp only [List.getElem?_toArray, List.getElem?_cons_succ, List.getElem?_cons_zero]; rfl)
  intro K hK
  go_simp
  go_at_call 16
  refine ((show Calls _ _ #[.agg #[.bool xb2, .slice x2 xn2 xc2], .agg #[.bool zb1, .slice z1 zn1 zc1]] _ _ by rw [HVx2.out, HVz1.out]; exact and_go _ _ _ _ _ _ _ _ xG zF _ (by have := HBD.out; omega) HNx2.out HNz1.out (Hx2.out.below BC.out) (Hz1.out.below BC.out))).mono ?_
  rintro e wz2 ⟨⟨v, rfl, qa, qc, rfl, hf⟩, hb⟩
  replace HFp := Lib.hid (HFp.out.below hb)
  obtain ⟨qF, hqF⟩ : ∃ F, F = andF xG zF := ⟨_, rfl⟩
  rw [← hqF] at hf ⊢
  obtain ⟨qn, hqn⟩ : ∃ n, n = qF.l.length := ⟨_, rfl⟩
  obtain ⟨qb, hqb⟩ : ∃ n, n = qF.never := ⟨_, rfl⟩
  rw [← hqn] at hf ⊢
  rw [← hqb]
  have HFq := Lib.hid (hf.mono (B' := W.heap.size) (by have := BC.out.size; omega))
  have HXq := Lib.hid hqF
  have HNq := Lib.hid hqn
  have HVq := Lib.hid hqb
  have HDq := Lib.hid (show qn ≤ 2000 by have h := andF_len xG zF; rw [← hqF, ← hqn, ← HNx2.out, ← HNz1.out] at h; have := HBD.out; omega)
  replace BC := Lib.hid (BC.out.trans (hb.mono BC.out.size))
  clear hb hf hqF hqn hqb
  go_wp2_with fail
  clear hHeld
  refine hK.out _ _ (by (try dsimp only); exact ⟨(HBx.out.keep BC.out).d0, (HBx.out.keep BC.out).d1, (HBx.out.keep BC.out).d2, (HBx.out.keep BC.out).d3, (HBy.out.keep BC.out).d0, (HBy.out.keep BC.out).d1, (HBy.out.keep BC.out).d2, (HBy.out.keep BC.out).d3, (HBz.out.keep BC.out).d0, (HBz.out.keep BC.out).d1, (HBz.out.keep BC.out).d2, (HBz.out.keep BC.out).d3⟩) (fun hHeld => ?_)
  clear hK K
  (try simp only [Act.put, List.setIfInBounds_toArray, List.set_cons_zero, List.set_cons_succ])
  refine' tk_call 10 ?hi3019 (by kernel_rfl) ?hr3019
  case hi3019 => (simp only [List.getElem?_toArray, List.getElem?_cons_succ, List.getElem?_cons_zero]; rfl)
  intro K hK
  go_simp
  go_at_call 18
  refine ((show Calls _ _ #[.agg #[.bool pb, .slice pa pn pc], .agg #[.bool qb, .slice qa qn qc]] _ _ by rw [HVp.out, HVq.out]; exact or_go _ _ _ _ _ _ _ _ pF qF _ (by have := HDp.out; have := HDq.out; omega) HNp.out HNq.out HFp.out HFq.out)).mono ?_
  rintro e wz3 ⟨⟨v, rfl, ra, rc, rfl, hf⟩, hb⟩
  replace HFp := Lib.hid (HFp.out.below hb)
  replace HFq := Lib.hid (HFq.out.below hb)
  obtain ⟨rF, hrF⟩ : ∃ F, F = orF pF qF := ⟨_, rfl⟩
  rw [← hrF] at hf ⊢
  obtain ⟨rn, hrn⟩ : ∃ n, n = rF.l.length := ⟨_, rfl⟩
  obtain ⟨rb, hrb⟩ : ∃ n, n = rF.never := ⟨_, rfl⟩
  rw [← hrn] at hf ⊢
  rw [← hrb]
  have HFr := Lib.hid (hf.mono (B' := W.heap.size) (by have := BC.out.size; omega))
  have HXr := Lib.hid hrF
  have HNr := Lib.hid hrn
  have HVr := Lib.hid hrb
  have HDr := Lib.hid (show rn ≤ 2000 by have h := orF_len pF qF; rw [← hrF, ← hrn, ← HNp.out, ← HNq.out] at h; have := HDp.out; have := HDq.out; omega)
  replace BC := Lib.hid (BC.out.trans (hb.mono BC.out.size))
  clear hb hf hrF hrn hrb
  go_wp2_with fail
  clear hHeld
  refine hK.out _ _ (by (try dsimp only); exact ⟨(HBx.out.keep BC.out).d0, (HBx.out.keep BC.out).d1, (HBx.out.keep BC.out).d2, (HBx.out.keep BC.out).d3, (HBy.out.keep BC.out).d0, (HBy.out.keep BC.out).d1, (HBy.out.keep BC.out).d2, (HBy.out.keep BC.out).d3, (HBz.out.keep BC.out).d0, (HBz.out.keep BC.out).d1, (HBz.out.keep BC.out).d2, (HBz.out.keep BC.out).d3⟩) (fun hHeld => ?_)
  clear hK K
  (try simp only [Act.put, List.setIfInBounds_toArray, List.set_cons_zero, List.set_cons_succ])
  refine' tk_call 15 ?hi3020 (by kernel_rfl) ?hr3020
  case hi3020 => (simp only [List.getElem?_toArray, List.getElem?_cons_succ, List.getElem?_cons_zero]; rfl)
  intro K hK
  go_simp
  go_at_call 16
  refine ((show Calls _ _ #[.agg #[.bool xb1, .slice x1 xn1 xc1], .agg #[.bool yb2, .slice y2 yn2 yc2]] _ _ by rw [HVx1.out, HVy2.out]; exact and_go _ _ _ _ _ _ _ _ xF yG _ (by have := HBD.out; omega) HNx1.out HNy2.out (Hx1.out.below BC.out) (Hy2.out.below BC.out))).mono ?_
  rintro e wz4 ⟨⟨v, rfl, sa, sc, rfl, hf⟩, hb⟩
  replace HFp := Lib.hid (HFp.out.below hb)
  replace HFq := Lib.hid (HFq.out.below hb)
  replace HFr := Lib.hid (HFr.out.below hb)
  obtain ⟨sF, hsF⟩ : ∃ F, F = andF xF yG := ⟨_, rfl⟩
  rw [← hsF] at hf ⊢
  obtain ⟨sn, hsn⟩ : ∃ n, n = sF.l.length := ⟨_, rfl⟩
  obtain ⟨sb, hsb⟩ : ∃ n, n = sF.never := ⟨_, rfl⟩
  rw [← hsn] at hf ⊢
  rw [← hsb]
  have HFs := Lib.hid (hf.mono (B' := W.heap.size) (by have := BC.out.size; omega))
  have HXs := Lib.hid hsF
  have HNs := Lib.hid hsn
  have HVs := Lib.hid hsb
  have HDs := Lib.hid (show sn ≤ 2000 by have h := andF_len xF yG; rw [← hsF, ← hsn, ← HNx1.out, ← HNy2.out] at h; have := HBD.out; omega)
  replace BC := Lib.hid (BC.out.trans (hb.mono BC.out.size))
  clear hb hf hsF hsn hsb
  go_wp2_with fail
  clear hHeld
  refine hK.out _ _ (by (try dsimp only); exact ⟨(HBx.out.keep BC.out).d0, (HBx.out.keep BC.out).d1, (HBx.out.keep BC.out).d2, (HBx.out.keep BC.out).d3, (HBy.out.keep BC.out).d0, (HBy.out.keep BC.out).d1, (HBy.out.keep BC.out).d2, (HBy.out.keep BC.out).d3, (HBz.out.keep BC.out).d0, (HBz.out.keep BC.out).d1, (HBz.out.keep BC.out).d2, (HBz.out.keep BC.out).d3⟩) (fun hHeld => ?_)
  clear hK K
  (try simp only [Act.put, List.setIfInBounds_toArray, List.set_cons_zero, List.set_cons_succ])
  refine' tk_call 20 ?hi3021 (by kernel_rfl) ?hr3021
  case hi3021 => (simp only [List.getElem?_toArray, List.getElem?_cons_succ, List.getElem?_cons_zero]; rfl)
  intro K hK
  go_simp
  go_at_call 16
  refine ((show Calls _ _ #[.agg #[.bool xb2, .slice x2 xn2 xc2], .agg #[.bool zb2, .slice z2 zn2 zc2]] _ _ by rw [HVx2.out, HVz2.out]; exact and_go _ _ _ _ _ _ _ _ xG zG _ (by have := HBD.out; omega) HNx2.out HNz2.out (Hx2.out.below BC.out) (Hz2.out.below BC.out))).mono ?_
  rintro e wz5 ⟨⟨v, rfl, ta, tc, rfl, hf⟩, hb⟩
  replace HFp := Lib.hid (HFp.out.below hb)
  replace HFq := Lib.hid (HFq.out.below hb)
  replace HFr := Lib.hid (HFr.out.below hb)
  replace HFs := Lib.hid (HFs.out.below hb)
  obtain ⟨tF, htF⟩ : ∃ F, F = andF xG zG := ⟨_, rfl⟩
  rw [← htF] at hf ⊢
  obtain ⟨tn, htn⟩ : ∃ n, n = tF.l.length := ⟨_, rfl⟩
  obtain ⟨tb, htb⟩ : ∃ n, n = tF.never := ⟨_, rfl⟩
  rw [← htn] at hf ⊢
  rw [← htb]
  have HFt := Lib.hid (hf.mono (B' := W.heap.size) (by have := BC.out.size; omega))
  have HXt := Lib.hid htF
  have HNt := Lib.hid htn
  have HVt := Lib.hid htb
  have HDt := Lib.hid (show tn ≤ 2000 by have h := andF_len xG zG; rw [← htF, ← htn, ← HNx2.out, ← HNz2.out] at h; have := HBD.out; omega)
  replace BC := Lib.hid (BC.out.trans (hb.mono BC.out.size))
  clear hb hf htF htn htb
  go_wp2_with fail
  clear hHeld
  refine hK.out _ _ (by (try dsimp only); exact ⟨(HBx.out.keep BC.out).d0, (HBx.out.keep BC.out).d1, (HBx.out.keep BC.out).d2, (HBx.out.keep BC.out).d3, (HBy.out.keep BC.out).d0, (HBy.out.keep BC.out).d1, (HBy.out.keep BC.out).d2, (HBy.out.keep BC.out).d3, (HBz.out.keep BC.out).d0, (HBz.out.keep BC.out).d1, (HBz.out.keep BC.out).d2, (HBz.out.keep BC.out).d3⟩) (fun hHeld => ?_)
  clear hK K
  (try simp only [Act.put, List.setIfInBounds_toArray, List.set_cons_zero, List.set_cons_succ])
  refine' tk_call 21 ?hi3022 (by kernel_rfl) ?hr3022
  case hi3022 => (simp only [List.getElem?_toArray, List.getElem?_cons_succ, List.getElem?_cons_zero]; rfl)
  intro K hK
  go_simp
  go_at_call 18
  refine ((show Calls _ _ #[.agg #[.bool sb, .slice sa sn sc], .agg #[.bool tb, .slice ta tn tc]] _ _ by rw [HVs.out, HVt.out]; exact or_go _ _ _ _ _ _ _ _ sF tF _ (by have := HDs.out; have := HDt.out; omega) HNs.out HNt.out HFs.out HFt.out)).mono ?_
  rintro e wz6 ⟨⟨v, rfl, ua, uc, rfl, hf⟩, hb⟩
  replace HFp := Lib.hid (HFp.out.below hb)
  replace HFq := Lib.hid (HFq.out.below hb)
  replace HFr := Lib.hid (HFr.out.below hb)
  replace HFs := Lib.hid (HFs.out.below hb)
  replace HFt := Lib.hid (HFt.out.below hb)
  obtain ⟨uF, huF⟩ : ∃ F, F = orF sF tF := ⟨_, rfl⟩
  rw [← huF] at hf ⊢
  obtain ⟨un, hun⟩ : ∃ n, n = uF.l.length := ⟨_, rfl⟩
  obtain ⟨ub, hub⟩ : ∃ n, n = uF.never := ⟨_, rfl⟩
  rw [← hun] at hf ⊢
  rw [← hub]
  have HFu := Lib.hid (hf.mono (B' := W.heap.size) (by have := BC.out.size; omega))
  have HXu := Lib.hid huF
  have HNu := Lib.hid hun
  have HVu := Lib.hid hub
  have HDu := Lib.hid (show un ≤ 2000 by have h := orF_len sF tF; rw [← huF, ← hun, ← HNs.out, ← HNt.out] at h; have := HDs.out; have := HDt.out; omega)
  replace BC := Lib.hid (BC.out.trans (hb.mono BC.out.size))
  clear hb hf huF hun hub
  go_wp2_with fail
  clear hHeld
  refine hK.out _ _ (by (try dsimp only); exact ⟨(HBx.out.keep BC.out).d0, (HBx.out.keep BC.out).d1, (HBx.out.keep BC.out).d2, (HBx.out.keep BC.out).d3, (HBy.out.keep BC.out).d0, (HBy.out.keep BC.out).d1, (HBy.out.keep BC.out).d2, (HBy.out.keep BC.out).d3, (HBz.out.keep BC.out).d0, (HBz.out.keep BC.out).d1, (HBz.out.keep BC.out).d2, (HBz.out.keep BC.out).d3⟩) (fun hHeld => ?_)
  clear hK K
  (try simp only [Act.put, List.setIfInBounds_toArray, List.set_cons_zero, List.set_cons_succ])
  refine' tk_any 22 29 (v := _) ?hi3023 ?hd3023 (by kernel_rfl) (by kernel_rfl) (by kernel_rfl) (fun _ _ _ h => h) ?hy3023 hHeld ?hr3023
  case hi3023 => (simp only [List.getElem?_toArray, List.getElem?_cons_succ, List.getElem?_cons_zero]; rfl)
  case hd3023 => rfl
  case hy3023 =>
    refine' Or.inl ⟨?hw3023, ?hx3023⟩
    case hw3023 => rfl
    case hx3023 => (intro w hSw; (try dsimp only at hSw); go_simp; (try with_reducible rfl))
  (try simp only [Act.put, List.setIfInBounds_toArray, List.set_cons_zero, List.set_cons_succ])
  have hr := HR.out.keep BC.out
  have r0 := hr.d0
  have r1 := hr.d1
  have r2 := hr.d2
  have r3 := hr.d3
  have f0 := hr.fr 0
  have f1 := hr.fr 1
  have f2 := hr.fr 2
  have f3 := hr.fr 3
  clear hr
  refine' tk_call 23 ?hi3024 (by kernel_rfl) ?hr3024
  case hi3024 => (simp only [List.getElem?_toArray, List.getElem?_cons_succ, List.getElem?_cons_zero]; rfl)
  intro K hK
  go_simp
  clear hHeld
  refine hK.out _ _ (by (try dsimp only); exact ⟨set_blk (by omega) (set_blk (by omega) (set_blk (by omega) (set_blk (by omega) (HBx.out.keep BC.out).d0))), set_blk (by omega) (set_blk (by omega) (set_blk (by omega) (set_blk (by omega) (HBx.out.keep BC.out).d1))), set_blk (by omega) (set_blk (by omega) (set_blk (by omega) (set_blk (by omega) (HBx.out.keep BC.out).d2))), set_blk (by omega) (set_blk (by omega) (set_blk (by omega) (set_blk (by omega) (HBx.out.keep BC.out).d3))), set_blk (by omega) (set_blk (by omega) (set_blk (by omega) (set_blk (by omega) (HBy.out.keep BC.out).d0))), set_blk (by omega) (set_blk (by omega) (set_blk (by omega) (set_blk (by omega) (HBy.out.keep BC.out).d1))), set_blk (by omega) (set_blk (by omega) (set_blk (by omega) (set_blk (by omega) (HBy.out.keep BC.out).d2))), set_blk (by omega) (set_blk (by omega) (set_blk (by omega) (set_blk (by omega) (HBy.out.keep BC.out).d3))), set_blk (by omega) (set_blk (by omega) (set_blk (by omega) (set_blk (by omega) (HBz.out.keep BC.out).d0))), set_blk (by omega) (set_blk (by omega) (set_blk (by omega) (set_blk (by omega) (HBz.out.keep BC.out).d1))), set_blk (by omega) (set_blk (by omega) (set_blk (by omega) (set_blk (by omega) (HBz.out.keep BC.out).d2))), set_blk (by omega) (set_blk (by omega) (set_blk (by omega) (set_blk (by omega) (HBz.out.keep BC.out).d3)))⟩) (fun hHeld => ?_)
  clear hK K
  (try simp only [Act.put, List.setIfInBounds_toArray, List.set_cons_zero, List.set_cons_succ])
  refine wpAnyH_done (by kernel_rfl) ?_ _
  refine NoPanic.normal ?_
  go_wp2
  refine bodyPost_ret (v := .agg #[.bool rb, .slice ra rn rc, .bool ub, .slice ua un uc]) ?_ ?_ ?_
  · simp [results, Try.results44, go_sem, r0, r1, r2, r3]
  · rfl
  · exact pr_done (B := W.heap.size) (by omega) (by have := HSZ.out; omega) (by rw [HNr.out, HXr.out, HXp.out, HXq.out]) (by rw [HNu.out, HXu.out, HXs.out, HXt.out]) (by rw [HVr.out, HXr.out, HXp.out, HXq.out]) (by rw [HVu.out, HXu.out, HXs.out, HXt.out]) (by have h := HFr.out; rw [HXr.out, HXp.out, HXq.out] at h; exact h) (by have h := HFu.out; rw [HXu.out, HXs.out, HXt.out] at h; exact h) (HL.out.trans (BC.out.mono HL.out.size))
end Go.Proofs.Ytgjkobkcmgliaaa
