import Derived.Test.YtgjkobkcmgliaaaNwY
namespace Go.Proofs.Ytgjkobkcmgliaaa
open Go.RowKit

/-- a row without its first -/
theorem FaB.tail {B b off p n c : Nat} {w : World} {x : Int × Int} {r : List (Int × Int)} (h : FaB B w (.slice (some ⟨b, off, none⟩) n c) (x :: r)) (hn : n = r.length + 1) (hp : c = 1 ∨ p = off + 2) : FaB B w (.slice (some ⟨b, p, none⟩) (n - 1) (c - 1)) r := by
  subst hn
  rcases h with ⟨h, _⟩ | ⟨b', off', cap, e, h1, h2, h3, h4, h5⟩
  · cases h
  · cases e
    simp only [List.length_cons] at h3 h4
    rcases hp with rfl | rfl
    · have e : r = [] := List.length_eq_zero_iff.1 (by omega)
      subst e
      exact .inl ⟨rfl, _, _, rfl⟩
    · refine .inr ⟨b, off + 2, c - 1, rfl, h1, h2, by omega, by omega, fun j hj => ?_⟩
      have := h5 (j + 1) (by simp; omega)
      rw [show off + (j + 1) * 2 = off + 2 + j * 2 by omega] at this
      simpa using this
theorem FaB.room {B n c : Nat} {a : Option Addr} {w : World} {l : List (Int × Int)} (h : FaB B w (.slice a n c) l) (hl : 0 < l.length) : n ≤ c := by
  obtain ⟨_, _, _, e, _, _, _, h, _⟩ := h.at hl
  cases e; exact h
def lenVV : Value → Nat
  | .slice _ n _ => n
  | _ => 0
/-- what is still to be merged -/
def EiRel (B B' M : Nat) (w : World) (T : List (Int × Int)) (av bv ov : Value) (wr : World) : Prop :=
  ∃ (a b : Option Addr) (n c m d q : Nat) (l k out : List (Int × Int)), av = .slice a n c ∧ bv = .slice b m d ∧ n + m ≤ M ∧ q ≤ 20000 ∧ Hid (n = l.length) ∧ Hid (m = k.length) ∧ Hid (FaB B w (.slice a n c) l) ∧ Hid (FaB B' w (.slice b m d) k) ∧ Hid (Norm l) ∧ Hid (Norm k) ∧ Hid (out ++ eitherL l k = T) ∧
    Hid (q = out.length) ∧ Hid (wr.ownsRow w.heap.size 61 2 ov q (fasCells out)) ∧ Hid (Below w.heap.size w wr)
theorem ei_end {B B' M n c m d n' c' m' d' q' : Nat} {a b a' b' : Option Addr} {w w9 : World} {T l k l' k' out out' : List (Int × Int)} {ov : Value} (h1 : n' + m' < n + m) (h2 : n + m ≤ M) (h3 : q' ≤ 20000) (hn : n' = l'.length) (hk : m' = k'.length) (hf : FaB B w (.slice a' n' c') l') (hg : FaB B' w (.slice b' m' d') k') (hl : Norm l') (hkk : Norm k')
    (hT : out ++ eitherL l k = T) (he : out' ++ eitherL l' k' = out ++ eitherL l k) (hq : q' = out'.length) (ho : w9.ownsRow w.heap.size 61 2 ov q' (fasCells out')) (hb : Below w.heap.size w w9) :
    EiRel B B' M w T (.slice a' n' c') (.slice b' m' d') ov w9 ∧ lenVV (.slice a' n' c') + lenVV (.slice b' m' d') < lenVV (.slice a n c) + lenVV (.slice b m d) :=
  ⟨⟨a', b', n', c', m', d', q', l', k', out', rfl, rfl, by omega, h3, Lib.hid hn, Lib.hid hk, Lib.hid hf, Lib.hid hg, Lib.hid hl, Lib.hid hkk, Lib.hid (he.trans hT), Lib.hid hq, Lib.hid ho, Lib.hid hb⟩, h1⟩
/-- two facts in blocks of their own -/
def TwoBx (w : World) (x y u v : Int) (p q : Value) (W : World) : Prop :=
  ∃ bx b9, p = .pointer (some ⟨bx, 0, none⟩) ∧ q = .pointer (some ⟨b9, 0, none⟩) ∧ Hid (Bx W bx 61 #[.int .i64 x, .int .i64 y]) ∧ Hid (Bx W b9 61 #[.int .i64 u, .int .i64 v]) ∧ Hid (Below w.heap.size w W)
theorem two_xy (w : World) (x y u v : Int) : TwoBx w x y u v (.pointer (some ⟨w.heap.size, 0, none⟩)) (.pointer (some ⟨w.heap.size + 1, 0, none⟩)) ((w.alloc (.cells #[.int .i64 x, .int .i64 y] 61)).alloc (.cells #[.int .i64 u, .int .i64 v] 61)).drew :=
  ⟨_, _, rfl, rfl, Lib.hid (show Bx (((w.alloc (.cells #[.int .i64 x, .int .i64 y] 61)).alloc (.cells #[.int .i64 u, .int .i64 v] 61))) _ _ _ from alloc_past (alloc_at rfl) (by simp)), Lib.hid (show Bx (((w.alloc (.cells #[.int .i64 x, .int .i64 y] 61)).alloc (.cells #[.int .i64 u, .int .i64 v] 61))) _ _ _ from alloc_at (by simp)), Lib.hid (((Below.refl _ _).alloc (Nat.le_refl _) _).alloc (by simp) _).drew⟩
theorem two_yx (w : World) (x y u v : Int) : TwoBx w x y u v (.pointer (some ⟨w.heap.size + 1, 0, none⟩)) (.pointer (some ⟨w.heap.size, 0, none⟩)) ((w.alloc (.cells #[.int .i64 u, .int .i64 v] 61)).alloc (.cells #[.int .i64 x, .int .i64 y] 61)).drew :=
  ⟨_, _, rfl, rfl, Lib.hid (show Bx (((w.alloc (.cells #[.int .i64 u, .int .i64 v] 61)).alloc (.cells #[.int .i64 x, .int .i64 y] 61))) _ _ _ from alloc_at (by simp)), Lib.hid (show Bx (((w.alloc (.cells #[.int .i64 u, .int .i64 v] 61)).alloc (.cells #[.int .i64 x, .int .i64 y] 61))) _ _ _ from alloc_past (alloc_at rfl) (by simp)), Lib.hid (((Below.refl _ _).alloc (Nat.le_refl _) _).alloc (by simp) _).drew⟩

set_option maxRecDepth 100000 in
set_option maxHeartbeats 32000000 in
theorem either_go (B B' : Nat) (a b : Option Addr) (n c m d : Nat) (l k : List (Int × Int)) (w : World) (hn : n = l.length) (hk : m = k.length) (hm : n + m ≤ 10000) (hl : Norm l) (hkk : Norm k) (hf : FaB B w (.slice a n c) l) (hg : FaB B' w (.slice b m d) k) :
    Calls Try.prog 48 #[.slice a n c, .slice b m d] w (SlPost (dropF (eitherL l k)) w) := by
  obtain ⟨i0, hi, hz0, hz1, hz2⟩ := info_parts Try.infoFa
  obtain ⟨T, hT⟩ : ∃ T, T = eitherL l k := ⟨_, rfl⟩
  have HT := Lib.hid hT
  have HTL := Lib.hid (show T.length ≤ 10000 by rw [hT]; have := (either_len _ l k (Nat.le_refl _)).1; omega)
  have HST := Lib.hid (show EiRel B B' (n + m) w T (.slice a n c) (.slice b m d) (.slice none 0 0) w from ⟨a, b, n, c, m, d, 0, l, k, [], rfl, rfl, Nat.le_refl _, by omega, Lib.hid hn, Lib.hid hk, Lib.hid hf, Lib.hid hg, Lib.hid hl, Lib.hid hkk, Lib.hid (by rw [hT]; rfl), Lib.hid rfl, Lib.hid (World.ownsRow_nil _ _ _ _), Lib.hid (Below.refl _ _)⟩)
  have HM := Lib.hid hm
  rw [← hT]
  clear hT hn hk hf hg hl hkk hm
  go_enter Try.func48, Try.ntmps48
  go_wp2
  go_loopw [0, 1, 5] (fun av bv ov wr => EiRel B B' (n + m) w T av bv ov wr) (fun av bv _ _ => lenVV av + lenVV bv)
  case atStart => exact HST.out
  case round =>
    obtain ⟨a, b, n, c, m, d, q, l, k, out, rfl, rfl, hnm, hq, HN, HK, HF, HG, HNL, HNK, HTT, HQ, HOW, HBW⟩ := hrel
    have hM := HM.out
    have bq : (q : Int) ≤ 20000 := by omega
    by_cases hne : 0 < n ∧ 0 < m
    · obtain ⟨hn0, hm0⟩ := hne
      obtain ⟨x, l', hl⟩ : ∃ x l', l = x :: l' := by
        match l, HN.out with
        | x :: l', _ => exact ⟨x, l', rfl⟩
        | [], h => simp at h; omega
      obtain ⟨y, k', hk⟩ : ∃ x l', k = x :: l' := by
        match k, HK.out with
        | x :: l', _ => exact ⟨x, l', rfl⟩
        | [], h => simp at h; omega
      subst hl hk
      obtain ⟨qa, offa, rfl, _, hqa, a0, a1⟩ := HF.out.get (k := 0) (by simp)
      obtain ⟨qb, offb, rfl, _, hqb, b0, b1⟩ := HG.out.get (k := 0) (by simp)
      rw [Nat.zero_mul, Nat.add_zero] at a0 a1 b0 b1
      obtain ⟨xv, xt⟩ := x
      obtain ⟨yv, yt⟩ := y
      have A0 := (HBW.out.cell (p := ⟨qa, _, none⟩) hqa).trans a0
      have A1 := (HBW.out.cell (p := ⟨qa, _, none⟩) hqa).trans a1
      have B0 := (HBW.out.cell (p := ⟨qb, _, none⟩) hqb).trans b0
      have B1 := (HBW.out.cell (p := ⟨qb, _, none⟩) hqb).trans b1
      simp only [List.getD_cons_zero] at A0 A1 B0 B1
      have ra := HF.out.room (by simp)
      have rb := HG.out.room (by simp)
      have k1 : (0 : Int) < (n : Int) := by omega
      have k2 : (0 : Int) < (m : Int) := by omega
      have qa2 : qa < wr.heap.size := Nat.lt_of_lt_of_le hqa HBW.out.size
      have qb2 : qb < wr.heap.size := Nat.lt_of_lt_of_le hqb HBW.out.size
      clear a0 a1 b0 b1
      go_upto_region 3 with fail
      go_cut [6, 7] from 16 to 21 (fun p q wx => TwoBx wr xv xt yv yt p q wx)
      case first =>
        rename_i hR hM2
        go_region_held3 (fun w' => w'.cell? ⟨qa, offa, none⟩ = some (.int .i64 xv) ∧ w'.cell? ⟨qa, offa + 1, none⟩ = some (.int .i64 xt) ∧ w'.cell? ⟨qb, offb, none⟩ = some (.int .i64 yv) ∧ w'.cell? ⟨qb, offb + 1, none⟩ = some (.int .i64 yt))
          (first | go_keep) (fail)
        all_goals
          refine hM2 _ _ (Met.intro (hR _ _ ?_))
          (repeat apply Exists.intro)
          first
            | exact ⟨two_xy wr xv xt yv yt, rfl⟩
            | exact ⟨two_yx wr xv xt yv yt, rfl⟩
      case rest =>
        obtain ⟨bx, b9, rfl, rfl, HX, HY, HBC⟩ := hcut
        have z0 := HX.out.c0
        have z1 := HX.out.c1
        have y0 := HY.out.c0
        have y1 := HY.out.c1
        have HBT := Lib.hid (HBW.out.trans (HBC.out.mono HBW.out.size))
        have HOC := Lib.hid (own_block HOW.out (w' := wc) fun g' hg' => HBC.out.block g' (own_lt HOW.out hg'))
        have HNA := Lib.hid (show n - 1 = l'.length by have := HN.out; simp at this; omega)
        have HNB := Lib.hid (show m - 1 = k'.length by have := HK.out; simp at this; omega)
        have kc : (1 : Int) ≤ (n : Int) := by omega
        have kd : (1 : Int) ≤ (m : Int) := by omega
        have kc2 : (1 : Int) ≤ (c : Int) := by omega
        have kd2 : (1 : Int) ≤ (d : Int) := by omega
        have hn2 : n = l'.length + 1 := by have := HN.out; simpa using this
        have hm2 : m = k'.length + 1 := by have := HK.out; simpa using this
        have HN2 := Lib.hid hn2
        have HM2 := Lib.hid hm2
        clear hn2 hm2 A0 A1 B0 B1
        rcases Int.lt_trichotomy xv yv with hlt | heq | hgt
        · have kx : decide (xv < yv) = true := decide_eq_true hlt
          have HE := Lib.hid (show out ++ eitherL l' ((yv, yt) :: k') = out ++ eitherL ((xv, xt) :: l') ((yv, yt) :: k') by rw [either_lt (x := (xv, xt)) (y := (yv, yt)) hlt])
          by_cases hcA : c = 1
          · have HTA := Lib.hid (HF.out.tail (p := offa) HN2.out (.inl hcA))
            subst hcA
            obtain rfl : n = 1 := by omega
            go_wp2
            exact ei_end (by have := HN2.out; omega) hnm hq HNA.out HK.out HTA.out HG.out HNL.out.tail HNK.out HTT.out HE.out HQ.out HOC.out HBT.out
          · have HTA := Lib.hid (HF.out.tail (p := offa + 2) HN2.out (.inr rfl))
            go_wp2
            exact ei_end (by have := HN2.out; omega) hnm hq HNA.out HK.out HTA.out HG.out HNL.out.tail HNK.out HTT.out HE.out HQ.out HOC.out HBT.out
        · have kx : decide (xv < yv) = false := decide_eq_false (by omega)
          have kx2 : decide (yv < xv) = false := decide_eq_false (by omega)
          obtain ⟨r, hr⟩ : ∃ r : Int, r = ((xt.toNat ||| yt.toNat : Nat) : Int) := ⟨_, rfl⟩
          have hxr := HNL.out.2 (xv, xt) (by simp)
          have hyr := HNK.out.2 (yv, yt) (by simp)
          have hor : bits .or .i64 xt yt = r := by
            have h1 := i64_or (x := xt.toNat) (y := yt.toNat) (by simp at hxr; omega) (by simp at hyr; omega)
            rw [← hr, show ((xt.toNat : Nat) : Int) = xt by simp at hxr; omega, show ((yt.toNat : Nat) : Int) = yt by simp at hyr; omega] at h1
            exact h1
          have HE := Lib.hid (show (out ++ [(xv, r)]) ++ eitherL l' k' = out ++ eitherL ((xv, xt) :: l') ((yv, yt) :: k') by rw [either_eq (x := (xv, xt)) (y := (yv, yt)) heq, hr]; simp)
          have hv : ∃ oa oc, u5 = .slice oa q oc := by
            rcases HOC.out.2 with ⟨h, h0⟩ | ⟨g, cap, cur, h, _⟩
            · exact ⟨none, 0, by rw [h, h0]⟩
            · exact ⟨_, cap, h⟩
          obtain ⟨oa, oc, rfl⟩ := hv
          have HOX := Lib.hid (HOC.out.alloc (.cells #[.int .i64 xv, .int .i64 r] 61))
          have HSX := Lib.hid (show w.heap.size ≤ (wc.alloc (.cells #[.int .i64 xv, .int .i64 r] 61)).heap.size by rw [size_alloc]; have := HBT.out.size; omega)
          clear hr hxr hyr heq
          by_cases hcA : c = 1
          · have HTA := Lib.hid (HF.out.tail (p := offa) HN2.out (.inl hcA))
            subst hcA
            obtain rfl : n = 1 := by omega
            by_cases hcB : d = 1
            · have HTB := Lib.hid (HG.out.tail (p := offb) HM2.out (.inl hcB))
              subst hcB
              obtain rfl : m = 1 := by omega
              go_wp2_with (at_builtin; refine wpl_append_gen _ rfl _ _ 28 rfl w.heap.size 61 i0 (.agg #[.int .i64 0, .int .i64 0]) 2 16 Try.underlying28 hi hz0 hz1 hz2 rfl (by decide) (.slice oa q oc) q (fasCells out) rfl HOX.out (some ⟨wc.heap.size, 0, none⟩) 1 1 [.int .i64 xv, .int .i64 r] rfl rfl (.inr ⟨_, rfl, fun j u hj => app_new hj⟩) (by simp [Value.oneCell']) (by unfold maxLen; omega) (by omega) HSX.out ?_)
              intro v9 w9 hown9 hgrow9
              have HB9 := Lib.hid (show Below w.heap.size w w9 from (HBT.out.alloc HBT.out.size _).grown hgrow9 HSX.out fun g hg => (HOX.out.lt g hg).1)
              have HO9 := Lib.hid (show w9.ownsRow w.heap.size 61 2 v9 (q + 1) (fasCells (out ++ [(xv, r)])) by rw [fasCells_snoc]; exact hown9)
              clear hown9 hgrow9
              go_wp2
              go_quiet (fail)
              go_wp2
              exact ei_end (by have := HN2.out; omega) hnm (by have h := congrArg List.length HTT.out; have h2 := congrArg List.length HE.out; simp only [List.length_append] at h h2; have := HTL.out; have := HQ.out; simp at h2; omega) HNA.out HNB.out HTA.out HTB.out HNL.out.tail HNK.out.tail HTT.out HE.out (by rw [List.length_append, ← HQ.out]; rfl) HO9.out (below_dr HB9.out _)
            · have HTB := Lib.hid (HG.out.tail (p := offb + 2) HM2.out (.inr rfl))
              go_wp2_with (at_builtin; refine wpl_append_gen _ rfl _ _ 28 rfl w.heap.size 61 i0 (.agg #[.int .i64 0, .int .i64 0]) 2 16 Try.underlying28 hi hz0 hz1 hz2 rfl (by decide) (.slice oa q oc) q (fasCells out) rfl HOX.out (some ⟨wc.heap.size, 0, none⟩) 1 1 [.int .i64 xv, .int .i64 r] rfl rfl (.inr ⟨_, rfl, fun j u hj => app_new hj⟩) (by simp [Value.oneCell']) (by unfold maxLen; omega) (by omega) HSX.out ?_)
              intro v9 w9 hown9 hgrow9
              have HB9 := Lib.hid (show Below w.heap.size w w9 from (HBT.out.alloc HBT.out.size _).grown hgrow9 HSX.out fun g hg => (HOX.out.lt g hg).1)
              have HO9 := Lib.hid (show w9.ownsRow w.heap.size 61 2 v9 (q + 1) (fasCells (out ++ [(xv, r)])) by rw [fasCells_snoc]; exact hown9)
              clear hown9 hgrow9
              go_wp2
              go_quiet (fail)
              go_wp2
              exact ei_end (by have := HN2.out; omega) hnm (by have h := congrArg List.length HTT.out; have h2 := congrArg List.length HE.out; simp only [List.length_append] at h h2; have := HTL.out; have := HQ.out; simp at h2; omega) HNA.out HNB.out HTA.out HTB.out HNL.out.tail HNK.out.tail HTT.out HE.out (by rw [List.length_append, ← HQ.out]; rfl) HO9.out (below_dr HB9.out _)
          · have HTA := Lib.hid (HF.out.tail (p := offa + 2) HN2.out (.inr rfl))
            by_cases hcB : d = 1
            · have HTB := Lib.hid (HG.out.tail (p := offb) HM2.out (.inl hcB))
              subst hcB
              obtain rfl : m = 1 := by omega
              go_wp2_with (at_builtin; refine wpl_append_gen _ rfl _ _ 28 rfl w.heap.size 61 i0 (.agg #[.int .i64 0, .int .i64 0]) 2 16 Try.underlying28 hi hz0 hz1 hz2 rfl (by decide) (.slice oa q oc) q (fasCells out) rfl HOX.out (some ⟨wc.heap.size, 0, none⟩) 1 1 [.int .i64 xv, .int .i64 r] rfl rfl (.inr ⟨_, rfl, fun j u hj => app_new hj⟩) (by simp [Value.oneCell']) (by unfold maxLen; omega) (by omega) HSX.out ?_)
              intro v9 w9 hown9 hgrow9
              have HB9 := Lib.hid (show Below w.heap.size w w9 from (HBT.out.alloc HBT.out.size _).grown hgrow9 HSX.out fun g hg => (HOX.out.lt g hg).1)
              have HO9 := Lib.hid (show w9.ownsRow w.heap.size 61 2 v9 (q + 1) (fasCells (out ++ [(xv, r)])) by rw [fasCells_snoc]; exact hown9)
              clear hown9 hgrow9
              go_wp2
              go_quiet (fail)
              go_wp2
              exact ei_end (by have := HN2.out; omega) hnm (by have h := congrArg List.length HTT.out; have h2 := congrArg List.length HE.out; simp only [List.length_append] at h h2; have := HTL.out; have := HQ.out; simp at h2; omega) HNA.out HNB.out HTA.out HTB.out HNL.out.tail HNK.out.tail HTT.out HE.out (by rw [List.length_append, ← HQ.out]; rfl) HO9.out (below_dr HB9.out _)
            · have HTB := Lib.hid (HG.out.tail (p := offb + 2) HM2.out (.inr rfl))
              go_wp2_with (at_builtin; refine wpl_append_gen _ rfl _ _ 28 rfl w.heap.size 61 i0 (.agg #[.int .i64 0, .int .i64 0]) 2 16 Try.underlying28 hi hz0 hz1 hz2 rfl (by decide) (.slice oa q oc) q (fasCells out) rfl HOX.out (some ⟨wc.heap.size, 0, none⟩) 1 1 [.int .i64 xv, .int .i64 r] rfl rfl (.inr ⟨_, rfl, fun j u hj => app_new hj⟩) (by simp [Value.oneCell']) (by unfold maxLen; omega) (by omega) HSX.out ?_)
              intro v9 w9 hown9 hgrow9
              have HB9 := Lib.hid (show Below w.heap.size w w9 from (HBT.out.alloc HBT.out.size _).grown hgrow9 HSX.out fun g hg => (HOX.out.lt g hg).1)
              have HO9 := Lib.hid (show w9.ownsRow w.heap.size 61 2 v9 (q + 1) (fasCells (out ++ [(xv, r)])) by rw [fasCells_snoc]; exact hown9)
              clear hown9 hgrow9
              go_wp2
              go_quiet (fail)
              go_wp2
              exact ei_end (by have := HN2.out; omega) hnm (by have h := congrArg List.length HTT.out; have h2 := congrArg List.length HE.out; simp only [List.length_append] at h h2; have := HTL.out; have := HQ.out; simp at h2; omega) HNA.out HNB.out HTA.out HTB.out HNL.out.tail HNK.out.tail HTT.out HE.out (by rw [List.length_append, ← HQ.out]; rfl) HO9.out (below_dr HB9.out _)
        · have kx : decide (xv < yv) = false := decide_eq_false (by omega)
          have kx2 : decide (yv < xv) = true := decide_eq_true (by omega)
          have HE := Lib.hid (show out ++ eitherL ((xv, xt) :: l') k' = out ++ eitherL ((xv, xt) :: l') ((yv, yt) :: k') by rw [either_gt (x := (xv, xt)) (y := (yv, yt)) hgt])
          by_cases hcB : d = 1
          · have HTB := Lib.hid (HG.out.tail (p := offb) HM2.out (.inl hcB))
            subst hcB
            obtain rfl : m = 1 := by omega
            go_wp2
            exact ei_end (by have := HM2.out; omega) hnm hq HN.out HNB.out HF.out HTB.out HNL.out HNK.out.tail HTT.out HE.out HQ.out HOC.out HBT.out
          · have HTB := Lib.hid (HG.out.tail (p := offb + 2) HM2.out (.inr rfl))
            go_wp2
            exact ei_end (by have := HM2.out; omega) hnm hq HN.out HNB.out HF.out HTB.out HNL.out HNK.out.tail HTT.out HE.out HQ.out HOC.out HBT.out
    · have HE := Lib.hid (show out = T by
        have h := HTT.out
        have e : eitherL l k = [] := by
          have : n = 0 ∨ m = 0 := by omega
          rcases this with h | h
          · rw [List.length_eq_zero_iff.1 (HN.out.symm.trans h), either_nil]
          · rw [List.length_eq_zero_iff.1 (HK.out.symm.trans h), either_nil']
        rwa [e, List.append_nil] at h)
      have HDF := Lib.hid (fdel_go w.heap.size q u5 T wr (by rw [← HE.out]; exact HQ.out) (by omega) HBW.out.size (by rw [← HE.out]; exact HOW.out))
      by_cases hn0 : 0 < n
      · have hm0 : m = 0 := by omega
        subst hm0
        have k1 : (0 : Int) < (n : Int) := by omega
        clear hne hn0
        go_wp2_with fail
        refine HDF.out.mono ?_
        rintro e w9 ⟨⟨v9, rfl, hf9⟩, hb9⟩
        have HF9 := Lib.hid hf9
        have HB9 := Lib.hid (HBW.out.trans hb9)
        clear hf9 hb9
        go_wp2
        go_ret
        exact ⟨⟨_, rfl, HF9.out⟩, HB9.out⟩
      · have hn00 : n = 0 := by omega
        subst hn00
        clear hne hn0
        go_wp2_with fail
        refine HDF.out.mono ?_
        rintro e w9 ⟨⟨v9, rfl, hf9⟩, hb9⟩
        have HF9 := Lib.hid hf9
        have HB9 := Lib.hid (HBW.out.trans hb9)
        clear hf9 hb9
        go_wp2
        go_ret
        exact ⟨⟨_, rfl, HF9.out⟩, HB9.out⟩
end Go.Proofs.Ytgjkobkcmgliaaa
