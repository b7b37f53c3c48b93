import Derived.Test.YtdjhjapfmbcmlaaDoorTyPa
namespace Go.Proofs.YtdjhjapfmbcmlaaDoor
open Go.RowKit

theorem DawsOf.app {w : World} {ok : Nat → Prop} {rs ss : List RawD} {l m : List Dat} (h : DawsOf w ok rs l) (k : DawsOf w ok ss m) : DawsOf w ok (rs ++ ss) (l ++ m) := by
  refine ⟨by rw [List.length_append, List.length_append, h.1, k.1], fun j hj => ?_⟩
  rw [List.length_append] at hj
  by_cases hlt : j < l.length
  · have h1 := h.2 j hlt
    simpa [List.getD_eq_getElem?_getD, List.getElem?_append_left, hlt, h.1] using h1
  · have h1 := k.2 (j - l.length) (by omega)
    have e1 : (rs ++ ss)[j]? = ss[j - l.length]? := by rw [List.getElem?_append_right (by rw [h.1]; omega), h.1]
    have e2 : (l ++ m)[j]? = m[j - l.length]? := List.getElem?_append_right (by omega)
    rw [List.getD_eq_getElem?_getD, List.getD_eq_getElem?_getD] at h1 ⊢
    rw [e1, e2]; exact h1
theorem rows_cells' {w : World} {b off : Nat} {rs : List RawD} (h : Rows3 w b off rs) : ∀ j u, (dsCells rs)[j]? = some u → w.cell? ((⟨b, off, none⟩ : Addr).add j) = some u := by
  intro j u hu
  have hj := (List.getElem?_eq_some_iff.1 hu).1
  rw [dsCells_len] at hj
  have hq : j / 3 < rs.length := by omega
  obtain ⟨h0, h1, h2⟩ := h (j / 3) hq
  obtain ⟨g0, g1, g2⟩ := dsCells_get rs (j / 3) hq
  rw [Addr.add_lit]
  have h3 : j % 3 < 3 := Nat.mod_lt _ (by decide)
  rcases (by omega : j % 3 = 0 ∨ j % 3 = 1 ∨ j % 3 = 2) with e | e | e
  · have hjj : j = j / 3 * 3 := by omega
    rw [hjj] at hu ⊢
    rw [g0] at hu
    rw [← hu]; exact h0
  · have hjj : j = j / 3 * 3 + 1 := by omega
    rw [hjj] at hu ⊢
    rw [g1] at hu
    rw [← hu]; exact h1
  · have hjj : j = j / 3 * 3 + 2 := by omega
    rw [hjj] at hu ⊢
    rw [g2] at hu
    rw [← hu]; exact h2
theorem names_len (f : Int) (b : Bool) : (namesD f b).length ≤ 6 := by
  have h : ∀ (p : Bool) (d : Dat), (if p then [d] else ([] : List Dat)).length ≤ 1 := fun p d => by cases p <;> simp
  unfold namesD
  simp only [List.length_append]
  have h1 := h (bitOf f 1) (symD nInt)
  have h2 := h (bitOf f 2) (symD nBool)
  have h3 := h (bitOf f 4) (symD nStr)
  have h4 := h (bitOf f 8) (symD nSym)
  have h5 := h (bitOf f 16 && !b) (symD nNull)
  have h6 := h (bitOf f 32) (symD nVoid)
  omega
theorem parts_len (x : Ty) : (namesD x.flat (x.pair == 2) ++ pairD x ++ funD x).length ≤ 8 := by
  have h := names_len x.flat (x.pair == 2)
  have h1 : (pairD x).length ≤ 1 := by unfold pairD; split <;> (try split) <;> (try split) <;> simp
  have h2 : (funD x).length ≤ 1 := by unfold funD; split <;> (try split) <;> simp
  simp only [List.length_append]; omega
theorem toldT_parts (x : Ty) : toldT x = if x.all then symD nAny else oneD (namesD x.flat (x.pair == 2) ++ pairD x ++ funD x) := toldT_eq x

set_option maxRecDepth 100000 in
set_option maxHeartbeats 32000000 in
theorem spell_succ (n : Nat) (ih : SpOK n) : SpOK (n + 1) := by
  intro x N vx w hsz okx hN hFN hx
  obtain ⟨i0, hi, hz0, hz1, hz2⟩ := info_parts Tryd.infoDat
  obtain ⟨g, hg⟩ : ∃ g, g = w.heap.size := ⟨_, rfl⟩
  have hC : ∀ w1, Below w.heap.size w w1 → g + 1 < w1.heap.size → Calls Tryd.prog 59 #[vx] w1 fun e w' => (∃ v, e = .returned v ∧ SliceOf w' (Lo (fun b => N b ∨ b = g + 1) w') v (namesD x.flat (x.pair == 2) ++ pairD x ++ funD x)) ∧ Below w1.heap.size w1 w' := fun w1 hb h3 =>
    parts_p n ih (fun b => N b ∨ b = g + 1) x vx w1 (fun b h => h.elim (fun h => Nat.lt_of_lt_of_le (hN b h) hb.size) (fun h => by omega)) (hx.later hb fun b h => h.imp id fun h => by omega) okx (fun d hd => by
      rcases hd with hd | hd
      · have := szT_pairs hd; omega
      · have := szT_funs hd; omega) (hFN.below hb)
  have hT := toldT_parts x
  have hLl := parts_len x
  generalize (namesD x.flat (x.pair == 2) ++ pairD x ++ funD x) = L at hC hT hLl
  generalize toldT x = D at hT ⊢
  have CW := fun s (hs : s.size ≤ 100000) w => word_p s hs w
  obtain ⟨xpa, xpc, xfa, xfc, rfl, xhp, xhf⟩ := hx.form
  obtain ⟨xnp, xhnp⟩ : ∃ n, n = x.pairs.length := ⟨_, rfl⟩
  obtain ⟨xnf, xhnf⟩ : ∃ n, n = x.funs.length := ⟨_, rfl⟩
  obtain ⟨xa, xha⟩ : ∃ a, a = x.all := ⟨_, rfl⟩
  obtain ⟨xf, xhf'⟩ : ∃ a, a = x.flat := ⟨_, rfl⟩
  obtain ⟨xp, xhp'⟩ : ∃ a, a = x.pair := ⟨_, rfl⟩
  obtain ⟨xn, xhn⟩ : ∃ a, a = x.fn := ⟨_, rfl⟩
  rw [← xha] at hT
  rw [← xhnp, ← xhnf, ← xha, ← xhf', ← xhp', ← xhn] at hC ⊢
  obtain ⟨W, hW⟩ : ∃ W, W = (w.alloc (.cells #[.bool xa, .int .i64 xf, .int .i64 xp, (.slice xpa xnp xpc), .int .i64 xn, (.slice xfa xnf xfc)] 24)).alloc (.cells #[.int .i64 0, .string ⟨#[]⟩, .slice none 0 0] 39) := ⟨_, rfl⟩
  have HBW := Lib.hid (show Below w.heap.size w W by rw [hW]; exact ((Below.refl _ _).alloc (Nat.le_refl _) _).alloc (by simp) _)
  have HBX := Lib.hid (show BoxAt W g xa xf xp (.slice xpa xnp xpc) xn (.slice xfa xnf xfc) by rw [hW, hg]; exact (BoxAt.made _ _ _ _ _ _ _).keep ((Below.refl _ _).alloc (Nat.le_refl _) _))
  have HR := Lib.hid (show DBox W (g + 1) 0 ⟨#[]⟩ (.slice none 0 0) by
    rw [hW, hg]; have := DBox.made (w.alloc (.cells #[.bool xa, .int .i64 xf, .int .i64 xp, (.slice xpa xnp xpc), .int .i64 xn, (.slice xfa xnf xfc)] 24)) 0 ⟨#[]⟩ (.slice none 0 0)
    simp only [alloc_hs] at this
    exact this)
  have HC := Lib.hid (hC W HBW.out HR.out.lt)
  have HT := Lib.hid hT
  have HLl := Lib.hid hLl
  have HCW := Lib.hid CW
  have HG := Lib.hid hg
  have HW := Lib.hid hW
  have HN := Lib.hid hN
  clear CW hC hT hLl hW hg hN hx okx hFN hsz ih xhp xhf xhnp xhnf xha xhf' xhp' xhn
  cases xa with
  | true =>
    have HD := Lib.hid (show D = symD nAny by rw [HT.out]; rfl)
    have x0 := HBX.out.c0
    have x1 := HBX.out.c1
    have x2 := HBX.out.c2
    have x3 := HBX.out.c3
    have x4 := HBX.out.c4
    have x5 := HBX.out.c5
    go_enter Tryd.func41, Tryd.ntmps41
    go_wp2_with fail
    rw [← HG.out, ← HW.out]
    refine (HCW.out ⟨nAny.toArray⟩ (by decide) W).mono ?_
    rintro e w9 ⟨rfl, hb9⟩
    have hr := HR.out.keep hb9
    have r0 := hr.c0
    have r1 := hr.c1
    have r2 := hr.c2
    have rf := hr.fr
    have HB9 := Lib.hid (HBW.out.trans (hb9.mono HBW.out.size))
    clear hb9 hr
    go_wp2
    refine bodyPost_ret (v := .agg #[.int .i64 1, .string ⟨nAny.toArray⟩, .slice none 0 0]) (by simp [results, Tryd.results41, go_sem, r0, r1, r2]) rfl ⟨⟨_, rfl, ?_⟩, below_set3 (g := g + 1) HB9.out (by rw [HG.out]; omega)⟩
    rw [HD.out]
    exact DatVN.mk (.mkNil _ _)
  | false =>
    have HD0 := Lib.hid (show D = oneD L by rw [HT.out]; rfl)
    go_enter Tryd.func41, Tryd.ntmps41
    go_wp2_with fail
    rw [← HG.out, ← HW.out]
    refine HC.out.mono ?_
    rintro e w2 ⟨⟨v, rfl, hv⟩, hb2⟩
    have HR2 := Lib.hid (HR.out.keep hb2)
    have HB2 := Lib.hid (HBW.out.trans (hb2.mono HBW.out.size))
    clear hb2
    obtain ⟨a, c, rfl⟩ := hv.val
    have HV := Lib.hid hv
    clear hv
    match L, HLl, HD0, HV with
    | [], _, HD0, HV =>
      have HD := Lib.hid (show D = symD nNothing by rw [HD0.out]; rfl)
      simp only [List.length_nil]
      go_wp2_with fail
      refine (HCW.out ⟨nNothing.toArray⟩ (by decide) w2).mono ?_
      rintro e w9 ⟨rfl, hb9⟩
      have hr := HR2.out.keep hb9
      have r0 := hr.c0
      have r1 := hr.c1
      have r2 := hr.c2
      have rf := hr.fr
      have HB9 := Lib.hid (HB2.out.trans (hb9.mono HB2.out.size))
      clear hb9 hr
      go_wp2
      refine bodyPost_ret (v := .agg #[.int .i64 1, .string ⟨nNothing.toArray⟩, .slice none 0 0]) (by simp [results, Tryd.results41, go_sem, r0, r1, r2]) rfl ⟨⟨_, rfl, ?_⟩, below_set3 (g := g + 1) HB9.out (by rw [HG.out]; omega)⟩
      rw [HD.out]
      exact DatVN.mk (.mkNil _ _)
    | [d], _, HD0, HV =>
      have HD := Lib.hid (show D = d by rw [HD0.out]; rfl)
      rcases HV.out.inv with ⟨h, _⟩ | ⟨b, off, cap, rs, e, hlo, _, hrows, hraw⟩
      · cases h
      injection e with e1 e2 e3
      subst e1
      obtain ⟨f0, f1, f2⟩ := hrows 0 (by rw [hraw.1]; exact Nat.zero_lt_one)
      have hr0 := hraw.2 0 (by simp)
      generalize rs.getD 0 draw0 = r at f0 f1 f2 hr0
      obtain ⟨rk, rt, rsv⟩ := r
      have hr1 : DawOf w2 (Lo (fun b => N b ∨ b = g + 1) w2) ⟨rk, rt, rsv⟩ d := hr0
      obtain ⟨sa, sc, hsv⟩ := hr1.2.2.val
      simp only at hsv f0 f1 f2
      subst hsv
      simp only [Nat.zero_mul, Nat.add_zero] at f0 f1 f2
      have HDR := Lib.hid hr1
      have hr := HR2.out
      have r0 := hr.c0
      have r1 := hr.c1
      have r2 := hr.c2
      have rf := hr.fr
      simp only [List.length_cons, List.length_nil, Nat.zero_add]
      clear hr hr0 hr1 hrows hraw hlo e2 e3 HV
      go_wp2
      refine bodyPost_ret (v := .agg #[.int .i64 rk, .string rt, .slice sa d.list.length sc]) (by simp [results, Tryd.results41, go_sem, r0, r1, r2]) rfl ⟨⟨_, rfl, ?_⟩, below_set3 (g := g + 1) HB2.out (by rw [HG.out]; omega)⟩
      rw [HD.out]
      have hdv : DatVN (fun b => N b ∨ b = g + 1) w2 (.agg #[.int .i64 rk, .string rt, .slice sa d.list.length sc]) d := ⟨_, rfl, HDR.out⟩
      exact (DatVN.set3 (g := g + 1) hdv (.inr rfl)).mono fun _ _ h => .inl h
    | d :: d2 :: r, HLl, HD0, HV =>
      have HD := Lib.hid (show D = rowD nU (d :: d2 :: r) by rw [HD0.out]; rfl)
      obtain ⟨L2, hL2⟩ : ∃ l, l = d :: d2 :: r := ⟨_, rfl⟩
      have hlen : 2 ≤ L2.length ∧ L2.length ≤ 8 := by rw [hL2]; exact ⟨by simp, HLl.out⟩
      rw [← hL2] at HD HV ⊢
      clear hL2 HLl HD0
      rcases HV.out.inv with ⟨h, _⟩ | ⟨b, off, cap, rs, e, hlo, _, hrows, hraw⟩
      · rw [h] at hlen; simp at hlen
      injection e with e1 e2 e3
      subst e1
      have hcl := rows_cells' hrows
      have hoc := dsCells_one rs fun r hr => by
        obtain ⟨i, hi, rfl⟩ := List.getElem_of_mem hr
        have h0 := hraw.2 i (by rw [← hraw.1]; exact hi)
        have e : rs.getD i draw0 = rs[i] := by simp [List.getD_eq_getElem?_getD, hi]
        rw [e] at h0
        obtain ⟨a, c, h⟩ := h0.2.2.val
        exact ⟨a, _, c, h⟩
      have hdl := dsCells_len rs
      rw [hraw.1] at hdl
      obtain ⟨m, hm⟩ : ∃ m, m = L2.length := ⟨_, rfl⟩
      rw [← hm] at hlen hdl ⊢
      have HCL := Lib.hid hcl
      have HOC := Lib.hid hoc
      have HDL := Lib.hid hdl
      have HRAW := Lib.hid hraw
      have HM := Lib.hid hm
      have HLO := Lib.hid hlo
      have hm1 : (2 : Int) ≤ m := by omega
      have hm2 : (m : Int) ≤ 8 := by omega
      have q0 : ((m : Int) == 0) = false := beq_false_of_ne (by omega)
      have q1 : ((m : Int) == 1) = false := beq_false_of_ne (by omega)
      clear hcl hoc hdl hraw hm hlo hrows HV e2 e3
      go_wp2_with fail
      refine (HCW.out ⟨nU.toArray⟩ (by decide) w2).mono ?_
      rintro e w3 ⟨rfl, hb3⟩
      obtain ⟨w4, hw4⟩ : ∃ w4, w4 = w3.alloc (.cells #[.int .i64 1, .string ⟨nU.toArray⟩, .slice none 0 0] 39) := ⟨_, rfl⟩
      have hb34 : Below w3.heap.size w3 w4 := by rw [hw4]; exact (Below.refl _ _).alloc (Nat.le_refl _) _
      have hone : RowAt (fun b => N b ∨ b = g + 1) (g + 2) w4 (.slice (some ⟨w3.heap.size, 0, none⟩) 1 1) [symD nU] := by
        rw [hw4]; exact RowAt.one (r := ⟨1, ⟨nU.toArray⟩, .slice none 0 0⟩) ⟨rfl, rfl, .mkNil _ _⟩ (by have := HR2.out.lt; have := hb3.size; omega)
      obtain ⟨rs0, hown0, hraw0⟩ := hone
      have hb24 : Below w2.heap.size w2 w4 := hb3.trans (hb34.mono hb3.size)
      have HOWN := Lib.hid (show w4.ownsRow (g + 2) 39 3 (.slice (some ⟨w3.heap.size, 0, none⟩) 1 1) 1 (dsCells rs0) from hown0)
      have HRAW0 := Lib.hid hraw0
      have HB24 := Lib.hid hb24
      have HB4 := Lib.hid (HB2.out.trans (hb24.mono HB2.out.size))
      have HR4 := Lib.hid (HR2.out.keep hb24)
      have HS3 := Lib.hid (show w2.heap.size ≤ w3.heap.size ∧ w3.heap.size < w4.heap.size from ⟨hb3.size, by rw [hw4, alloc_hs]; omega⟩)
      have HW4 := Lib.hid hw4
      clear hb3 hb34 hown0 hraw0 hb24 hw4
      go_wp2_with (at_builtin; rw [← HW4.out]; refine wpList_append_own _ rfl _ _ 37 rfl (g + 2) 39 i0 (.agg #[.int .i64 0, .string ⟨#[]⟩, .slice none 0 0]) 3 48 Tryd.underlying37 hi hz0 hz1 hz2 rfl (by decide) _ 1 (dsCells rs0) rfl HOWN.out ⟨b, off, none⟩ m c (dsCells rs) rfl ?c0 ?c1 ?c2 ?c3 ?c4 ?c5 ?_)
      case c0 => exact HDL.out
      case c1 => intro j u hj; have h := HCL.out j u hj; rw [Addr.add_lit] at h; first | exact (HB24.out.cell (p := ⟨b, off + j, none⟩) HLO.out.1).trans h | (rw [Addr.add_lit]; exact (HB24.out.cell (p := ⟨b, off + j, none⟩) HLO.out.1).trans h)
      case c2 => exact HOC.out
      case c3 => unfold maxLen; omega
      case c4 => omega
      case c5 => have := HR4.out.lt; omega
      intro v' w5 hown5 hgrow5 _
      have hown4 := HOWN.out
      have hge : ∀ k, (Value.slice (some ⟨w3.heap.size, 0, none⟩) 1 1).ownBlock = some k → k = w3.heap.size := fun k hk => by simp only [Value.ownBlock, Option.some.injEq] at hk; exact hk.symm
      have hB5 : Below w.heap.size w w5 := HB4.out.grown hgrow5 HB4.out.size fun k hk => by rw [hge k hk]; have := HB2.out.size; have := HS3.out; omega
      have hR5 : DBox w5 (g + 1) 0 ⟨#[]⟩ (.slice none 0 0) := (hgrow5.block (g + 1) HR4.out.lt (fun e => by have := hge _ e.symm; have := HR2.out.lt; have := HS3.out; omega)).trans HR4.out
      have hts : SliceOf w5 (Lo (fun b => N b ∨ b = g + 1) w5) v' (symD nU :: L2) := by
        have h1 : DawsOf w5 (Lo (fun b => N b ∨ b = g + 1) w5) rs0 [symD nU] := HRAW0.out.mono (fun b h => ⟨Nat.lt_of_lt_of_le h.1.1 hgrow5.size, h.1.2⟩) fun b o h => World.cell?_of_block (hgrow5.block b h.1.1 fun e => h.2 e.symm)
        have h2 : DawsOf w5 (Lo (fun b => N b ∨ b = g + 1) w5) rs L2 := HRAW.out.mono (fun b h => ⟨by have := h.1; have := HB24.out.size; have := hgrow5.size; omega, h.2⟩) fun b o h => by
          have hlt4 : b < w4.heap.size := Nat.lt_of_lt_of_le h.1 HB24.out.size
          exact (World.cell?_of_block (hgrow5.block b hlt4 fun e => by have := hge _ e.symm; have := h.1; have := HS3.out; omega)).trans (HB24.out.cell (p := ⟨b, o, none⟩) h.1)
        have h3 := h1.app h2
        have ho : w5.ownsRow (g + 2) 39 3 v' (rs0 ++ rs).length (dsCells (rs0 ++ rs)) := by
          rw [h3.1, dsCells_app]
          have : ([symD nU] ++ L2).length = 1 + m := by rw [List.length_append, ← HM.out]; rfl
          rw [this]; exact hown5
        refine SliceOf.of_own ho (by have : ([symD nU] ++ L2).length = 1 + m := by rw [List.length_append, ← HM.out]; rfl
                                     show ([symD nU] ++ L2).length ≤ maxLen; rw [this]; unfold maxLen; omega) (fun k hk => ?_) h3
        have := hown5.lt k hk
        exact ⟨this.2, fun e => e.elim (fun e => by have := HN.out k e; have := HG.out; omega) (fun e => by omega)⟩
      obtain ⟨gg, cap', hv'⟩ : ∃ gg cap', v' = .slice (some ⟨gg, 0, none⟩) (1 + m) cap' := by
        rcases hown5.2 with ⟨_, h⟩ | ⟨gg, cap', cur, hv, _⟩
        · omega
        · exact ⟨gg, cap', hv⟩
      subst hv'
      have hgl := (hown5.lt gg rfl).2
      have C := row_p (fun b => N b ∨ b = g + 1) gg (1 + m) cap' (symD nU :: L2) w5 (by rw [List.length_cons, ← HM.out]; omega) (fun b h => h.elim (fun h => by have := HN.out b h; have := hB5.size; omega) (fun h => by rw [h]; exact hR5.lt)) hts hgl (by rw [List.length_cons, ← HM.out]; omega) (by simp)
      have HC5 := Lib.hid C
      have HB5 := Lib.hid hB5
      have HR5 := Lib.hid hR5
      clear hown5 hgrow5 hown4 hge hB5 hR5 hts hgl C
      go_wp2_with fail
      refine HC5.out.mono ?_
      rintro e w6 ⟨⟨u, rfl, hu⟩, hb6⟩
      obtain ⟨ua, un, uc, rfl⟩ := hu.shape
      simp only [Dat.kind, Dat.text] at hu ⊢
      have hr := HR5.out.keep hb6
      have r0 := hr.c0
      have r1 := hr.c1
      have r2 := hr.c2
      have rf := hr.fr
      have HU := Lib.hid hu
      have HB6 := Lib.hid (HB5.out.trans (hb6.mono HB5.out.size))
      clear hu hr hb6
      go_wp2
      refine bodyPost_ret (v := .agg #[.int .i64 5, .string ⟨#[]⟩, .slice ua un uc]) (by simp [results, Tryd.results41, go_sem, r0, r1, r2]) rfl ⟨⟨_, rfl, ?_⟩, below_set3 (g := g + 1) HB6.out (by rw [HG.out]; omega)⟩
      rw [HD.out]
      exact (DatVN.set3 (g := g + 1) HU.out (.inr rfl)).mono fun _ _ h => .inl h

theorem spell_p (t : Ty) (N : Nat → Prop) (v : Value) (w : World) (okt : okTy t) (hN : ∀ b, N b → b < w.heap.size) (hFN : FN w) (hv : TyVN N w v t) :
    Calls Tryd.prog 41 #[v] w fun e w' => (∃ u, e = .returned u ∧ DatVN N w' u (toldT t)) ∧ Below w.heap.size w w' := by
  have key : ∀ n, SpOK n := by
    intro n
    induction n with
    | zero => intro t N v w h; have := szT_pos t; omega
    | succ n ih => exact spell_succ n ih
  exact key _ t N v w (Nat.le_refl _) okt hN hFN hv
end Go.Proofs.YtdjhjapfmbcmlaaDoor
