import Derived.Test.YtdjhjapfmbcmlaaDoorTyDv
namespace Go.Proofs.YtdjhjapfmbcmlaaDoor
open Go.RowKit

theorem toldL_snoc (l : List Ty) (t : Ty) : toldL (l ++ [t]) = toldL l ++ [toldT t] := by
  induction l with
  | nil => rfl
  | cons a r ih => simp only [List.cons_append, toldL, ih]
theorem toldL_len (l : List Ty) : (toldL l).length = l.length := by
  induction l with
  | nil => rfl
  | cons a r ih => simp only [toldL, List.length_cons, ih]
/-- the variable of the names holds them -/
def FN (w : World) : Prop := 0 < w.heap.size ∧ w.cell? ⟨0, 0, none⟩ = some (.string ⟨nInt.toArray⟩) ∧ w.cell? ⟨0, 1, none⟩ = some (.string ⟨nBool.toArray⟩) ∧ w.cell? ⟨0, 2, none⟩ = some (.string ⟨nStr.toArray⟩) ∧
  w.cell? ⟨0, 3, none⟩ = some (.string ⟨nSym.toArray⟩) ∧ w.cell? ⟨0, 4, none⟩ = some (.string ⟨nNull.toArray⟩) ∧ w.cell? ⟨0, 5, none⟩ = some (.string ⟨nVoid.toArray⟩)
theorem FN.below {w w' : World} (h : FN w) (hb : Below w.heap.size w w') : FN w' := by
  have hc : ∀ o, w'.cell? ⟨0, o, none⟩ = w.cell? ⟨0, o, none⟩ := fun o => hb.cell (p := ⟨_, o, none⟩) h.1
  exact ⟨Nat.lt_of_lt_of_le h.1 hb.size, (hc _).trans h.2.1, (hc _).trans h.2.2.1, (hc _).trans h.2.2.2.1, (hc _).trans h.2.2.2.2.1, (hc _).trans h.2.2.2.2.2.1, (hc _).trans h.2.2.2.2.2.2⟩
def SpOK (n : Nat) : Prop := ∀ (t : Ty) (N : Nat → Prop) (v : Value) (w : World), szT t ≤ n → okTy t → (∀ b, N b → b < w.heap.size) → FN w → TyVN N w v t →
    Calls Tryd.prog 41 #[v] w fun e w' => (∃ u, e = .returned u ∧ DatVN N w' u (toldT t)) ∧ Below w.heap.size w w'

set_option maxRecDepth 100000 in
set_option maxHeartbeats 16000000 in
theorem form_p (n : Nat) (ih : SpOK n) (N : Nat → Prop) (s : ByteArray) (l : List Ty) (a1 : Option Addr) (c1 : Nat) (w : World) (hs : s.size ≤ 1000) (hFN : FN w) (hN : ∀ b, N b → b < w.heap.size) (hl : TyS w (Lo N w) (.slice a1 l.length c1) l) (hlen : l.length ≤ 1000) (hok : ∀ x ∈ l, okTy x ∧ szT x ≤ n) :
    Calls Tryd.prog 74 #[.string s, .slice a1 l.length c1] w fun e w' => (∃ u, e = .returned u ∧ DatVN N w' u (.mk 5 ⟨#[]⟩ (.mk 1 s [] :: toldL l))) ∧ Below w.heap.size w w' := by
  obtain ⟨i0, hi, hz0, hz1, hz2⟩ := info_parts Tryd.infoDat
  have CW := fun w => word_p s (by omega) w
  obtain ⟨g, hg⟩ : ∃ g, g = w.heap.size := ⟨_, rfl⟩
  obtain ⟨nl, hnl⟩ : ∃ n, n = l.length := ⟨_, rfl⟩
  obtain ⟨W, hW⟩ : ∃ W, W = w.alloc (.cells #[.int .i64 0, .string ⟨#[]⟩, .slice none 0 0] 39) := ⟨_, rfl⟩
  have HBW := Lib.hid (show Below w.heap.size w W by rw [hW]; exact (Below.refl _ _).alloc (Nat.le_refl _) _)
  have HBX := Lib.hid (show DBox W g 0 ⟨#[]⟩ (.slice none 0 0) by rw [hW, hg]; exact DBox.made _ _ _ _)
  rw [← hnl] at hl hlen ⊢
  have HW := Lib.hid hW
  have HG := Lib.hid hg
  have HCW := Lib.hid CW
  have HN := Lib.hid hN
  have HL := Lib.hid hl
  have HNL := Lib.hid hnl
  have HOK := Lib.hid hok
  have HIH := Lib.hid ih
  have HFN := Lib.hid hFN
  have hlen' : (nl : Int) ≤ 1000 := by omega
  clear hW hg CW hN hl hnl hok ih hFN
  go_enter Tryd.func74, Tryd.ntmps74
  go_wp2_with fail
  rw [← HG.out, ← HW.out]
  refine (HCW.out W).mono ?_
  rintro e w2 ⟨rfl, hb2⟩
  have hone : RowAt (fun b => N b ∨ b = g) (g + 1) (w2.alloc (.cells #[.int .i64 1, .string s, .slice none 0 0] 39)) (.slice (some ⟨w2.heap.size, 0, none⟩) 1 1) [.mk 1 s []] :=
    RowAt.one (r := ⟨1, s, .slice none 0 0⟩) ⟨rfl, rfl, .mkNil _ _⟩ (by have := hb2.size; have := HBX.out.lt; omega)
  have HONE := Lib.hid hone
  have HB2 := Lib.hid (show Below w.heap.size w (w2.alloc (.cells #[.int .i64 1, .string s, .slice none 0 0] 39)) from (HBW.out.trans (hb2.mono HBW.out.size)).alloc (by have := hb2.size; have := HBW.out.size; omega) _)
  have HR2 := Lib.hid ((HBX.out.keep hb2).keep ((Below.refl _ _).alloc (Nat.le_refl _) (.cells #[.int .i64 1, .string s, .slice none 0 0] 39)))
  obtain ⟨w3, hw3⟩ : ∃ w3, w3 = w2.alloc (.cells #[.int .i64 1, .string s, .slice none 0 0] 39) := ⟨_, rfl⟩
  rw [← hw3] at HONE HB2 HR2
  have HW3 := Lib.hid hw3
  clear hone hb2 hw3
  go_wp2
  rw [← HW3.out]
  go_loopw [5, 7, 13] (fun v _ i wr => ∃ (j : Nat) (L : List Dat) (a : Option Addr) (c : Nat), j ≤ nl ∧ i = .int .i64 j ∧ v = .slice a L.length c ∧ Hid (L = .mk 1 s [] :: toldL (l.take j)) ∧ Hid (RowAt (fun b => N b ∨ b = g) (g + 1) wr (.slice a L.length c) L) ∧ Hid (Below w.heap.size w wr) ∧ Hid (DBox wr g 0 ⟨#[]⟩ (.slice none 0 0))) (fun _ _ i _ => nl - (intOf i).toNat)
  case atStart => exact ⟨0, [.mk 1 s []], _, _, Nat.zero_le _, rfl, rfl, Lib.hid (by simp [toldL]), HONE, HB2, HR2⟩
  case round =>
    obtain ⟨j, L, a, c, hj, rfl, rfl, HE, HROW, HB, HR⟩ := hrel
    by_cases hgo : j < nl
    · have hkl : j < l.length := by rw [← HNL.out]; exact hgo
      obtain ⟨d, hd⟩ : ∃ d, l.getD j ty0 = d := ⟨_, rfl⟩
      obtain ⟨b, off, p1, d1, p2, d2, rfl, hb', f0, f1, f2, f3, f4, f5, hv⟩ := TySN.elem HL.out hkl hd
      have hcc : ∀ o, wr.cell? ⟨b, o, none⟩ = w.cell? ⟨b, o, none⟩ := fun o => HB.out.cell (p := ⟨b, o, none⟩) hb'
      have e0 := (hcc _).trans f0
      have e1 := (hcc _).trans f1
      have e2 := (hcc _).trans f2
      have e3 := (hcc _).trans f3
      have e4 := (hcc _).trans f4
      have e5 := (hcc _).trans f5
      obtain ⟨rs, hown, hraw⟩ := HROW.out
      have hdo : okTy d ∧ szT d ≤ n := HOK.out d (by rw [← hd]; exact getT_mem hkl)
      have hLl : L.length = j + 1 := by rw [HE.out, List.length_cons, toldL_len, List.length_take]; omega
      have hLn : L ++ [toldT d] = .mk 1 s [] :: toldL (l.take (j + 1)) := by
        have e : l.take (j + 1) = l.take j ++ [d] := by rw [List.take_succ_eq_append_getElem hkl, ← hd]; simp [List.getD_eq_getElem?_getD, hkl]
        rw [e, toldL_snoc, HE.out]; rfl
      have C : ∀ w1, Below wr.heap.size wr w1 → Calls Tryd.prog 41 #[.agg #[.bool d.all, .int .i64 d.flat, .int .i64 d.pair, .slice p1 d.pairs.length d1, .int .i64 d.fn, .slice p2 d.funs.length d2]] w1
          fun e' w' => (∃ u, e' = .returned u ∧ DatVN (fun b => (N b ∨ b = g) ∨ (Value.slice a L.length c).ownBlock = some b) w' u (toldT d)) ∧ Below w1.heap.size w1 w' := fun w1 h1 => by
        refine HIH.out d _ _ w1 hdo.2 hdo.1 (fun b h => ?_) (HFN.out.below (HB.out.trans (h1.mono HB.out.size))) (hv.later (HB.out.trans (h1.mono HB.out.size)) fun b h => ?_)
        · rcases h with (h | h) | h
          · have := HN.out b h; have := HB.out.size; have := h1.size; omega
          · have := HR.out.lt; have := h1.size; omega
          · have := (hown.lt b h).2; have := h1.size; omega
        · rcases h with (h | h) | h
          · exact .inl h
          · exact .inr (by rw [h, HG.out]; omega)
          · exact .inr (by have := (hown.lt b h).1; rw [HG.out] at this; omega)
      obtain ⟨q1, hq1⟩ : ∃ q, q = d.pairs.length := ⟨_, rfl⟩
      obtain ⟨q2, hq2⟩ : ∃ q, q = d.funs.length := ⟨_, rfl⟩
      obtain ⟨da, hda⟩ : ∃ q, q = d.all := ⟨_, rfl⟩
      obtain ⟨df, hdf⟩ : ∃ q, q = d.flat := ⟨_, rfl⟩
      obtain ⟨dp, hdp⟩ : ∃ q, q = d.pair := ⟨_, rfl⟩
      obtain ⟨dn, hdn⟩ : ∃ q, q = d.fn := ⟨_, rfl⟩
      rw [← hda, ← hdf, ← hdp, ← hdn, ← hq1, ← hq2] at C
      rw [← hq1] at e3
      rw [← hq2] at e5
      rw [← hda] at e0
      rw [← hdf] at e1
      rw [← hdp] at e2
      rw [← hdn] at e4
      obtain ⟨D, hD⟩ : ∃ D, D = toldT d := ⟨_, rfl⟩
      rw [← hD] at C hLn
      obtain ⟨nL, hnL⟩ : ∃ n, n = L.length := ⟨_, rfl⟩
      rw [← hnL] at hown hraw C
      have hlt : (j : Int) < nl := by omega
      have hb3 : Below wr.heap.size wr (wr.alloc (.cells #[.bool da, .int .i64 df, .int .i64 dp, .slice p1 q1 d1, .int .i64 dn, .slice p2 q2 d2] 24)) := (Below.refl _ _).alloc (Nat.le_refl _) _
      have HC2 := Lib.hid (C _ hb3)
      have HB3 := Lib.hid (HB.out.trans (hb3.mono HB.out.size))
      have HR3 := Lib.hid (HR.out.keep hb3)
      have HROW3 := Lib.hid (HROW.out.below hb3)
      have HGO := Lib.hid hgo
      have HLN := Lib.hid hLn
      have HLL := Lib.hid (show nL = j + 1 ∧ nL = L.length from ⟨by omega, hnL⟩)
      obtain ⟨w3', hw3'⟩ : ∃ x, x = wr.alloc (.cells #[.bool da, .int .i64 df, .int .i64 dp, .slice p1 q1 d1, .int .i64 dn, .slice p2 q2 d2] 24) := ⟨_, rfl⟩
      rw [← hw3'] at HC2 HB3 HR3 HROW3
      have HW3' := Lib.hid hw3'
      rw [← hnL]
      clear f0 f1 f2 f3 f4 f5 hcc hv C hkl hd hdo hq1 hq2 hda hdf hdp hdn hD hnL hgo hj hLn hLl hb3 hw3' hown hraw HROW HE
      go_wp2_with fail
      rw [← HW3'.out]
      refine HC2.out.mono ?_
      rintro e' w4 ⟨⟨u, rfl, hu⟩, hb4⟩
      obtain ⟨ua, un, uc, rfl⟩ := hu.shape
      obtain ⟨dk, hdk⟩ : ∃ k, k = D.kind := ⟨_, rfl⟩
      obtain ⟨dt, hdt⟩ : ∃ k, k = D.text := ⟨_, rfl⟩
      rw [← hdk, ← hdt] at hu ⊢
      have hdr := hu.raw
      obtain ⟨rs, hown, hraw⟩ := HROW3.out.below hb4
      rw [← HLL.out.2] at hown hraw
      have HB4 := Lib.hid (HB3.out.trans (hb4.mono HB3.out.size))
      have HR4 := Lib.hid (HR3.out.keep hb4)
      have HDR := Lib.hid hdr
      have HRAW := Lib.hid hraw
      have HOWN := Lib.hid (hown.alloc (.cells #[.int .i64 dk, .string dt, .slice ua un uc] 39))
      clear hu hdr hown hraw hb4 hdk hdt
      have hn1 : nL + 1 ≤ 2000 := by have := HLL.out.1; have := HGO.out; omega
      go_wp2_with (at_builtin; refine wpList_append_lies _ rfl _ _ 37 rfl (g + 1) 39 i0 (.agg #[.int .i64 0, .string ⟨#[]⟩, .slice none 0 0]) 3 48 Tryd.underlying37 hi hz0 hz1 hz2 rfl (by decide) _ nL (dsCells rs) rfl HOWN.out ⟨w4.heap.size, 0, none⟩ 1 1 (dCells ⟨dk, dt, .slice ua un uc⟩) rfl rfl (World.news_of_block (heap_alloc_new w4 _)) ?k2 (by omega) ?k3 ?k4 ?k5 (w4.heap.size + 1) (alloc_hs _ _) ?_)
      case k2 => intro x hx; simp only [dCells, List.mem_cons, List.not_mem_nil, or_false] at hx; rcases hx with rfl | rfl | rfl <;> rfl
      case k3 => unfold maxLen; omega
      case k4 => omega
      case k5 => rw [alloc_hs]; have := HR4.out.lt; omega
      intro gg cap w5 hown5 hgrow5 hlies5 hlt5
      have hrow5 : RowAt (fun b => N b ∨ b = g) (g + 1) w5 (.slice (some ⟨gg, 0, none⟩) (nL + 1) cap) (L ++ [D]) := by
        have h2 : DawOf w4 (fun b => Lo (fun b => N b ∨ b = g) w4 b ∧ (Value.slice a nL c).ownBlock ≠ some b) ⟨dk, dt, .slice ua un uc⟩ D := HDR.out.mono (fun b h => ⟨⟨h.1, fun e => h.2 (.inl e)⟩, fun e => h.2 (.inr e)⟩) fun _ _ _ => rfl
        have h1 := HRAW.out
        have hn := HLL.out.2
        rw [hn] at h1 h2 hown5 hgrow5 hlies5 ⊢
        exact rowat_push h1 h2 hgrow5 hlies5 hown5
      have hown4 := HOWN.out
      have hge : ∀ k, (Value.slice a nL c).ownBlock = some k → g + 1 ≤ k := fun k hk => (hown4.lt k hk).1
      have hR5 : DBox w5 g 0 ⟨#[]⟩ (.slice none 0 0) := by
        have h1 := HR4.out.lt
        refine (hgrow5.block g (by rw [alloc_hs]; omega) fun e => ?_).trans ((Below.heap_alloc _ _ _ h1).trans HR4.out)
        have := hge g e.symm; omega
      have hB5 : Below w.heap.size w w5 := (HB4.out.alloc HB4.out.size _).grown hgrow5 (by rw [alloc_hs]; have := HB4.out.size; omega) fun k hk => by have := hge k hk; rw [HG.out] at this; omega
      have HROW5 := Lib.hid hrow5
      have HR5 := Lib.hid hR5
      have HB5 := Lib.hid hB5
      clear hrow5 hR5 hB5 hge hown4 hown5 hgrow5 hlies5 hlt5
      go_wp2
      refine ⟨⟨j + 1, L ++ [D], some ⟨gg, 0, none⟩, cap, by have := HGO.out; omega, by go_num, ?_, HLN, ?_, HB5, HR5⟩, ?_⟩
      · rw [List.length_append, List.length_cons, List.length_nil, ← HLL.out.2]
      · rw [List.length_append, List.length_cons, List.length_nil, ← HLL.out.2]; exact HROW5
      · have := HGO.out; simp [intOf]; omega
    · have hjn : j = nl := by omega
      have hlt : ¬ (j : Int) < nl := by omega
      have hL : L = .mk 1 s [] :: toldL l := by rw [HE.out, hjn, HNL.out, List.take_length]
      have hLL : L.length ≤ 2000 ∧ 0 < L.length := by rw [hL, List.length_cons, toldL_len, ← HNL.out]; omega
      have hdone := HROW.out.done (fun b h => h.elim (fun h => by have := HN.out b h; have := HG.out; omega) (fun h => by omega)) (by unfold maxLen; omega)
      have hsome : ∃ b, a = some ⟨b, 0, none⟩ ∧ b < wr.heap.size := by
        obtain ⟨rs, hown, _⟩ := HROW.out
        rcases hown.2 with ⟨hv, h0⟩ | ⟨gg, cap, cur, hv, _, hh, _⟩
        · omega
        · injection hv with h1 _ _
          exact ⟨gg, h1, (Array.getElem?_eq_some_iff.1 hh).1⟩
      obtain ⟨b, rfl, hbl⟩ := hsome
      have C := row_p (fun b => N b ∨ b = g) b L.length c L wr rfl (fun b h => h.elim (fun h => Nat.lt_of_lt_of_le (HN.out b h) HB.out.size) (fun h => by rw [h]; exact HR.out.lt)) hdone hbl (by omega) hLL.2
      obtain ⟨nL, hnL⟩ : ∃ n, n = L.length := ⟨_, rfl⟩
      rw [← hnL] at C ⊢
      have HC2 := Lib.hid C
      have HL2 := Lib.hid hL
      clear hjn hL hLL hdone hbl C hnL hgo hj HROW HE
      go_wp2_with fail
      refine HC2.out.mono ?_
      rintro e' w4 ⟨⟨u, rfl, hu⟩, hb4⟩
      obtain ⟨ua, un, uc, rfl⟩ := hu.shape
      have hr := HR.out.keep hb4
      have r0 := hr.c0
      have r1 := hr.c1
      have r2 := hr.c2
      have rf := hr.fr
      rw [HL2.out] at hu
      have HU := Lib.hid hu
      have HB4 := Lib.hid (HB.out.trans (hb4.mono HB.out.size))
      clear hu hr hb4
      simp only [Dat.kind, Dat.text]
      go_wp2
      refine bodyPost_ret (v := .agg #[.int .i64 5, .string ⟨#[]⟩, .slice ua un uc]) (by simp [results, Tryd.results74, go_sem, r0, r1, r2]) rfl ⟨⟨_, rfl, ?_⟩, below_set3 (g := g) HB4.out (by rw [HG.out]; omega)⟩
      exact (DatVN.set3 (g := g) HU.out (.inr rfl)).mono fun _ _ h => .inl h
end Go.Proofs.YtdjhjapfmbcmlaaDoor
