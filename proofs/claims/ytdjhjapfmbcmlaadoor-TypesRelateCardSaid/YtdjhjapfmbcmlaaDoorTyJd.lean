import Derived.Test.YtdjhjapfmbcmlaaDoorTyOq
import Derived.Deep.CutRange
import Derived.Deep.RegionHeld3
namespace Go.Proofs.YtdjhjapfmbcmlaaDoor
open Go.RowKit

/-- what has been counted, and the two functions that call each other -/
structure OneAt (c o al : Nat) (n : Nat) (w : World) : Prop where
  cnt : VarIs w c 3 (.int .i64 n)
  one : VarIs w o 32 (.func (.func 64) #[] #[.pointer (some ⟨c, 0, none⟩), .pointer (some ⟨al, 0, none⟩)])
  all : VarIs w al 68 (.func (.func 63) #[] #[.pointer (some ⟨o, 0, none⟩)])
theorem OneAt.keep {c o al n : Nat} {w w' : World} (h : OneAt c o al n w) (hb : Below w.heap.size w w') : OneAt c o al n w' := ⟨h.1.keep hb, h.2.keep hb, h.3.keep hb⟩
theorem RowT.stay {N M : Nat → Prop} {B : Nat} {w w' : World} {v : Value} {l : List Ty} (h : RowT M B w v l) (hs : Stay N w w') (hNM : ∀ b, N b → M b) (hNB : ∀ b, N b → b < B) : RowT M B w' v l := by
  obtain ⟨rs, ho, hr⟩ := h
  refine ⟨rs, ?_, hr.mono (fun b h => ⟨⟨Nat.lt_of_lt_of_le h.1.1 hs.size, h.1.2⟩, h.2⟩) fun b o h => hs.cell (p := ⟨_, _, none⟩) h.1.1 fun e => h.1.2 (hNM _ e)⟩
  obtain ⟨h1, h2⟩ := ho
  refine ⟨h1, ?_⟩
  rcases h2 with h2 | ⟨g, cap, cur, hv, hg, hh, r⟩
  · exact .inl h2
  · exact .inr ⟨g, cap, cur, hv, hg, (hs.block g (Array.getElem?_eq_some_iff.1 hh).1 fun e => by have := hNB g e; omega).trans hh, r⟩
theorem Stay.thenB {N : Nat → Prop} {a w w' : World} (h : Stay N a w) (k : Below a.heap.size w w') : Stay N a w' :=
  ⟨k.os.trans h.os, k.tape.trans h.tape, k.output.trans h.output, Nat.le_trans h.size k.size, fun i hi hn => (k.block i hi).trans (h.block i hi hn)⟩
theorem szTs_len : ∀ (l : List Ty), l.length ≤ szTs l
  | [] => Nat.le_refl _
  | t :: r => by
    have := szTs_len r
    have := szT_pos t
    rw [szTs, List.length_cons]; omega
def JdOK (n : Nat) : Prop := ∀ (t : Ty) (M : Nat → Prop) (v : Value) (w : World) (c o al k : Nat), szT t ≤ n → k + szT t ≤ 300 → okTy t → c ≠ o → c ≠ al → o ≠ al → M c → (∀ b, M b → b < w.heap.size) → OneAt c o al k w → TyVN M w v (unT t) →
    Calls Tryd.prog 64 #[v, .pointer (some ⟨c, 0, none⟩), .pointer (some ⟨al, 0, none⟩)] w fun e w' => (∃ u, e = .returned u ∧ TyVN M w' u t) ∧ Stay (· = c) w w' ∧ ∃ k', k' ≤ k + szT t ∧ OneAt c o al k' w'

set_option maxRecDepth 100000 in
set_option maxHeartbeats 32000000 in
theorem jall_any (n : Nat) (ih : JdOK n) (l : List Ty) (M : Nat → Prop) (a1 : Option Addr) (c1 : Nat) (w : World) (c o al k : Nat) (hsz : ∀ x ∈ l, szT x ≤ n ∧ okTy x) (hk : k + szTs l ≤ 300) (h1 : c ≠ o) (h2 : c ≠ al) (h3 : o ≠ al) (hMc : M c) (hM : ∀ b, M b → b < w.heap.size) (hw : OneAt c o al k w)
    (hl : TyS w (Lo M w) (.slice a1 l.length c1) (unTs l)) :
    Calls Tryd.prog 63 #[.slice a1 l.length c1, .pointer (some ⟨o, 0, none⟩)] w fun e w' => (∃ u, e = .returned u ∧ TyS w' (Lo M w') u l) ∧ Stay (· = c) w w' ∧ ∃ k', k' ≤ k + szTs l ∧ OneAt c o al k' w' := by
  obtain ⟨i0, hi, hz0, hz1, hz2⟩ := info_parts Tryd.infoTy
  have hmf : ∀ (args : Array Value) (w : World), (callFunc 64 args).run Tryd.prog w = .ok (.enter 64 args) w := fun _ _ => rfl
  obtain ⟨g, hg⟩ : ∃ g, g = w.heap.size := ⟨_, rfl⟩
  have hlen : l.length ≤ 300 := by have := szTs_len l; omega
  have hul := unTs_len l
  obtain ⟨nl, hnl⟩ : ∃ n, n = l.length := ⟨_, rfl⟩
  have HLT := Lib.hid (show c < g ∧ o < g ∧ al < g from by rw [hg]; exact ⟨hw.cnt.lt, hw.one.lt, hw.all.lt⟩)
  have HIH := Lib.hid ih
  have HSZ := Lib.hid hsz
  have HK := Lib.hid hk
  have HNE := Lib.hid (show c ≠ o ∧ c ≠ al ∧ o ≠ al from ⟨h1, h2, h3⟩)
  have HMC := Lib.hid hMc
  have HM := Lib.hid hM
  have HW := Lib.hid hw
  have HUL := Lib.hid hul
  rw [← hnl] at hl hlen ⊢
  have hnn : (0 : Int) ≤ nl := by omega
  have HL := Lib.hid (show TyS w (Lo (fun b => M b ∨ g ≤ b) w) (.slice a1 nl c1) (unTs l) from TySN.mono hl fun b hlt h => h.elim id fun h => by omega)
  have HNL := Lib.hid hnl
  have HG := Lib.hid hg
  clear hg hnl hul hl hw hM hMc h1 h2 h3 hk hsz ih
  go_enter Tryd.func63, Tryd.ntmps63
  go_wp2
  go_loopw [4, 6, 9] (fun v _ i wr => ∃ (j : Nat) (L : List Ty) (a : Option Addr) (cc kk : Nat), j ≤ nl ∧ i = .int .i64 j ∧ v = .slice a L.length cc ∧ Hid (L = l.take j) ∧ Hid (RowT M g wr (.slice a L.length cc) L) ∧ Hid (Stay (· = c) w wr) ∧ Hid (OneAt c o al kk wr) ∧ Hid (kk ≤ k + preD szT l j)) (fun _ _ i _ => nl - (intOf i).toNat)
  case atStart => exact ⟨0, [], none, 0, k, Nat.zero_le _, rfl, rfl, Lib.hid (by simp), Lib.hid RowT.nil, Lib.hid .refl, HW, Lib.hid (by simp [preD])⟩
  case round =>
    obtain ⟨j, L, a, cc, kk, hj, rfl, rfl, HE, HROW, HST, HON, HKK⟩ := hrel
    by_cases hgo : j < nl
    · have hkl : j < l.length := by rw [← HNL.out]; exact hgo
      have hkl2 : j < (unTs l).length := by rw [HUL.out]; exact hkl
      obtain ⟨d, hd⟩ : ∃ d, l.getD j ty0 = d := ⟨_, rfl⟩
      obtain ⟨b, off, p1, d1, p2, d2, rfl, hb', e0, e1, e2, e3, e4, e5, hv⟩ := TySN.elem (TySN.stay HL.out (HST.out.mono fun b h => .inl (by rw [h]; exact HMC.out))) hkl2 ((unTs_get l j hkl).trans (by rw [hd]))
      obtain ⟨rs, hown, hraw⟩ := HROW.out
      have hdo : szT d ≤ n ∧ okTy d := HSZ.out d (by rw [← hd]; exact getT_mem hkl)
      have hpre : preD szT l (j + 1) = preD szT l j + szT d := by rw [preD, hd]
      have hpl := preD_le l (j + 1) (by omega)
      have hLl : L.length = j := by rw [HE.out, List.length_take]; omega
      have hLn : L ++ [d] = l.take (j + 1) := by rw [List.take_succ_eq_append_getElem hkl, ← hd, HE.out]; simp [List.getD_eq_getElem?_getD, hkl]
      obtain ⟨ue, hue⟩ : ∃ x, x = unT d := ⟨_, rfl⟩
      rw [← hue] at e0 e1 e2 e3 e4 e5 hv
      obtain ⟨q1, hq1⟩ : ∃ q, q = ue.pairs.length := ⟨_, rfl⟩
      obtain ⟨q2, hq2⟩ : ∃ q, q = ue.funs.length := ⟨_, rfl⟩
      obtain ⟨da, hda⟩ : ∃ q, q = ue.all := ⟨_, rfl⟩
      obtain ⟨df, hdf⟩ : ∃ q, q = ue.flat := ⟨_, rfl⟩
      obtain ⟨dp, hdp⟩ : ∃ q, q = ue.pair := ⟨_, rfl⟩
      obtain ⟨dn, hdn⟩ : ∃ q, q = ue.fn := ⟨_, rfl⟩
      rw [← hda, ← hdf, ← hdp, ← hdn, ← hq1, ← hq2] at hv
      rw [← hq1] at e3
      rw [← hq2] at e5
      rw [← hda] at e0
      rw [← hdf] at e1
      rw [← hdp] at e2
      rw [← hdn] at e4
      have hb3 : Below wr.heap.size wr (wr.alloc (.cells #[.bool da, .int .i64 df, .int .i64 dp, .slice p1 q1 d1, .int .i64 dn, .slice p2 q2 d2] 24)) := (Below.refl _ _).alloc (Nat.le_refl _) _
      have hlt3 := HLT.out
      have C : Calls Tryd.prog 64 #[.agg #[.bool da, .int .i64 df, .int .i64 dp, .slice p1 q1 d1, .int .i64 dn, .slice p2 q2 d2], .pointer (some ⟨c, 0, none⟩), .pointer (some ⟨al, 0, none⟩)] (wr.alloc (.cells #[.bool da, .int .i64 df, .int .i64 dp, .slice p1 q1 d1, .int .i64 dn, .slice p2 q2 d2] 24)) fun e w' => (∃ u, e = .returned u ∧ TyVN (fun b => M b ∨ (Value.slice a L.length cc).ownBlock = some b) w' u d) ∧ Stay (· = c) (wr.alloc (.cells #[.bool da, .int .i64 df, .int .i64 dp, .slice p1 q1 d1, .int .i64 dn, .slice p2 q2 d2] 24)) w' ∧ ∃ k', k' ≤ kk + szT d ∧ OneAt c o al k' w' := by
        have hk1 := HKK.out
        have hk2 := HK.out
        have hwz := HST.out.size
        refine HIH.out d _ _ _ c o al kk hdo.1 (by omega) hdo.2 HNE.out.1 HNE.out.2.1 HNE.out.2.2 (.inl HMC.out) (fun b h => ?_) (HON.out.keep hb3) ?_
        · rcases h with h | h
          · have := HM.out b h; have := hb3.size; omega
          · have := (hown.lt b h).2; have := hb3.size; omega
        · rw [← hue]
          exact hv.later hb3 fun b h => .inl (h.elim .inl fun h => .inr (hown.lt b h).1)
      obtain ⟨nL, hnL⟩ : ∃ n, n = L.length := ⟨_, rfl⟩
      rw [← hnL] at hown hraw C
      have hlt : (j : Int) < nl := by omega
      have v0 := (HON.out.keep hb3).one.c
      have HC2 := Lib.hid C
      have HS3 := Lib.hid (HST.out.then hb3)
      have HROW3 := Lib.hid (HROW.out.below hb3)
      have HGO := Lib.hid hgo
      have HLN := Lib.hid hLn
      have HPRE := Lib.hid (show preD szT l (j + 1) = preD szT l j + szT d ∧ preD szT l (j + 1) ≤ szTs l from ⟨hpre, hpl⟩)
      have HLL := Lib.hid (show nL = j ∧ nL = L.length from ⟨by omega, hnL⟩)
      obtain ⟨w3, hw3⟩ : ∃ x, x = wr.alloc (.cells #[.bool da, .int .i64 df, .int .i64 dp, .slice p1 q1 d1, .int .i64 dn, .slice p2 q2 d2] 24) := ⟨_, rfl⟩
      rw [← hw3] at HC2 HS3 HROW3
      have HW3 := Lib.hid hw3
      rw [← hnL]
      clear hv C hkl hkl2 hd hdo hue hq1 hq2 hda hdf hdp hdn hnL hgo hj hLn hLl hb3 hw3 hown hraw HROW HE hpre hpl hlt3
      go_wp2_with fail
      rw [← HW3.out]
      refine HC2.out.mono ?_
      rintro e9 w4 ⟨⟨u, rfl, hu⟩, hs4, k4, hk4, ho4⟩
      obtain ⟨va, vf, vp, vpa, vnp, vpc, vk, vfa, vnf, vfc, rfl⟩ := hu.shape
      have hdr := hu.raw
      have hrow4 := HROW3.out.stay hs4 (fun b h => by rw [h]; exact HMC.out) (fun b h => by rw [h]; exact HLT.out.1)
      obtain ⟨rs, hown, hraw⟩ := hrow4
      rw [← HLL.out.2] at hown hraw
      have HS4 := Lib.hid (HS3.out.trans hs4)
      have HK4 := Lib.hid (show k4 ≤ k + preD szT l (j + 1) by have := HKK.out; have := HPRE.out.1; omega)
      have HO4 := Lib.hid ho4
      have HDR := Lib.hid hdr
      have HRAW := Lib.hid hraw
      have HOWN := Lib.hid (hown.alloc (.cells #[.bool va, .int .i64 vf, .int .i64 vp, .slice vpa vnp vpc, .int .i64 vk, .slice vfa vnf vfc] 24))
      clear hu hdr hown hraw hs4 hk4 ho4 v0 e0 e1 e2 e3 e4 e5
      have hn1 : nL + 1 ≤ 2000 := by have := HLL.out.1; have := HGO.out; omega
      go_wp2_with (at_builtin; refine wpList_append_lies _ rfl _ _ 22 rfl g 24 i0 (.agg #[.bool false, .int .i64 0, .int .i64 0, .slice none 0 0, .int .i64 0, .slice none 0 0]) 6 80 Tryd.underlying22 hi hz0 hz1 hz2 rfl (by decide) _ nL (rawsCells rs) rfl HOWN.out ⟨w4.heap.size, 0, none⟩ 1 1 (rawCells ⟨va, vf, vp, .slice vpa vnp vpc, vk, .slice vfa vnf vfc⟩) rfl rfl (World.news_of_block (heap_alloc_new w4 _)) ?k2 (by omega) ?k3 ?k4 ?k5 (w4.heap.size + 1) (alloc_hs _ _) ?_)
      case k2 => intro x hx; simp only [rawCells, List.mem_cons, List.not_mem_nil, or_false] at hx; rcases hx with rfl | rfl | rfl | rfl | rfl | rfl <;> rfl
      case k3 => unfold maxLen; omega
      case k4 => omega
      case k5 => rw [alloc_hs]; have := HS4.out.size; have := HG.out; omega
      intro gg cap w5 hown5 hgrow5 hlies5 hlt5
      have hrow5 : RowT M g w5 (.slice (some ⟨gg, 0, none⟩) (nL + 1) cap) (L ++ [d]) := by
        have h2 : RawOf w4 (fun b => Lo M w4 b ∧ (Value.slice a nL cc).ownBlock ≠ some b) ⟨va, vf, vp, .slice vpa vnp vpc, vk, .slice vfa vnf vfc⟩ d := HDR.out.mono (fun b h => ⟨⟨h.1, fun e => h.2 (.inl e)⟩, fun e => h.2 (.inr e)⟩) fun _ _ _ => rfl
        have h1 := HRAW.out
        have hn := HLL.out.2
        rw [hn] at h1 h2 hown5 hgrow5 hlies5 ⊢
        exact rowt_push h1 h2 hgrow5 hlies5 hown5
      have hown4 := HOWN.out
      have hge : ∀ k, (Value.slice a nL cc).ownBlock = some k → g ≤ k := fun k hk => (hown4.lt k hk).1
      have hb45 : Below g w4 w5 := ((Below.refl g w4).alloc (by rw [HG.out]; exact HS4.out.size) _).grown hgrow5 (by rw [alloc_hs]; have := HS4.out.size; rw [HG.out]; omega) hge
      have hS5 : Stay (· = c) w w5 := HS4.out.thenB (by rw [← HG.out]; exact hb45)
      have hO5 : OneAt c o al k4 w5 := ⟨(hb45.block c HLT.out.1).trans HO4.out.cnt, (hb45.block o HLT.out.2.1).trans HO4.out.one, (hb45.block al HLT.out.2.2).trans HO4.out.all⟩
      have HROW5 := Lib.hid hrow5
      have HS5 := Lib.hid hS5
      have HO5 := Lib.hid hO5
      clear hrow5 hS5 hO5 hge hown4 hown5 hgrow5 hlies5 hlt5 hb45
      go_wp2
      refine ⟨⟨j + 1, L ++ [d], some ⟨gg, 0, none⟩, cap, k4, by have := HGO.out; omega, by go_num, ?_, HLN, ?_, HS5, HO5, HK4⟩, ?_⟩
      · rw [List.length_append, List.length_cons, List.length_nil, ← HLL.out.2]
      · rw [List.length_append, List.length_cons, List.length_nil, ← HLL.out.2]; exact HROW5
      · have := HGO.out; simp [intOf]; omega
    · have hjn : j = nl := by omega
      have hlt : ¬ (j : Int) < nl := by omega
      have hL : L = l := by rw [HE.out, hjn, HNL.out, List.take_length]
      have hdone := HROW.out.done (fun b h => by rw [HG.out]; exact HM.out b h) (by rw [hL, ← HNL.out]; unfold maxLen; omega)
      rw [hL] at hdone
      have hpl := preD_le l l.length (Nat.le_refl _)
      have HD := Lib.hid hdone
      have HKF := Lib.hid (show kk ≤ k + szTs l by have := HKK.out; rw [hjn, HNL.out] at this; omega)
      have HLL := Lib.hid (show L.length = l.length by rw [hL])
      clear hjn hL hdone hpl hgo hj HROW HE
      go_wp2
      go_ret
      exact ⟨⟨_, rfl, by rw [HLL.out]; exact HD.out⟩, HST.out, kk, HKF.out, HON.out⟩
end Go.Proofs.YtdjhjapfmbcmlaaDoor
namespace Go.Proofs.YtdjhjapfmbcmlaaDoor
open Go.RowKit

theorem take_any {P : Program} {md : Region.Mode} {ops : Array Oper} {Q : Exit → Act → World → Prop} {S : World → Prop} {fuel : Nat} {listed : Array Bool} {a : Act} {w : World} (i : Nat) (d : Tmp) {oi : Oper} {v : Value} (hi : ops[i]? = some oi) (hd : oi.dst = some d)
    (hs : Region.noSelect ops = true) (hf : Region.free md ops listed i = true) (hr : (Region.ready md ops listed).contains i = true)
    (hQ : ∀ c a w, Q (.panic c) (a.put (some d) v) w → Q (.panic c) a w) (hy : YieldsIf P ops S oi v a) (hS : S w)
    (h : wpAnyH P md ops Q S fuel (listed.setIfInBounds i true) (a.put (some d) v) w) : wpAnyH P md ops Q S (fuel + 1) listed a w := by
  rw [← hd] at h hQ
  exact wpAnyH_take hi hs hf hr hQ hy hS h
theorem take_call {P : Program} {md : Region.Mode} {ops : Array Oper} {Q : Exit → Act → World → Prop} {S : World → Prop} {fuel : Nat} {listed : Array Bool} {a : Act} {w : World} (i : Nat) {o : Oper} (hi : ops[i]? = some o) (hr : Region.ready md ops listed = [i])
    (h : ∀ K' : Act → World → Prop, Shut (∀ a w, S w → (S w → wpAnyH P md ops Q S fuel (listed.setIfInBounds i true) a w) → K' a w) → if Region.wanted o (yielded ops a.tmps) = true then Oper.wp P o a w K' Q else K' (a.put o.dst undef) w) : wpAnyH P md ops Q S (fuel + 1) listed a w :=
  wpAnyH_ready hr (by simp) (AllReadyH.cons hi h AllReadyH.nil)
theorem take_two {P : Program} {md : Region.Mode} {ops : Array Oper} {Q : Exit → Act → World → Prop} {S : World → Prop} {fuel : Nat} {listed : Array Bool} {a : Act} {w : World} (i j : Nat) {o o' : Oper} (hi : ops[i]? = some o) (hj : ops[j]? = some o') (hr : Region.ready md ops listed = [i, j])
    (h : ∀ K' : Act → World → Prop, Shut (∀ a w, S w → (S w → wpAnyH P md ops Q S fuel (listed.setIfInBounds i true) a w) → K' a w) → if Region.wanted o (yielded ops a.tmps) = true then Oper.wp P o a w K' Q else K' (a.put o.dst undef) w)
    (h' : ∀ K' : Act → World → Prop, Shut (∀ a w, S w → (S w → wpAnyH P md ops Q S fuel (listed.setIfInBounds j true) a w) → K' a w) → if Region.wanted o' (yielded ops a.tmps) = true then Oper.wp P o' a w K' Q else K' (a.put o'.dst undef) w) : wpAnyH P md ops Q S (fuel + 1) listed a w :=
  wpAnyH_ready hr (by simp) (AllReadyH.cons hi h (AllReadyH.cons hj h' AllReadyH.nil))
/-- what holds behind both calls -/
def JdRel (M : Nat → Prop) (c o al k g : Nat) (t : Ty) (w : World) (ta : Bool) (tf tp tn : Int) (np nf : Nat) (wx : World) : Prop :=
  ∃ a1 c1 a2 c2 kx, BoxAt wx g ta tf tp (.slice a1 np c1) tn (.slice a2 nf c2) ∧ BoxAt wx (g + 1) false 0 0 (.slice none 0 0) 0 (.slice none 0 0) ∧ Stay (· = c) w wx ∧ OneAt c o al kx wx ∧ kx ≤ k + szT t ∧
    TyS wx (Lo (fun b => M b ∨ b = g ∨ b = g + 1) wx) (.slice a1 np c1) t.pairs ∧ TyS wx (Lo (fun b => M b ∨ b = g ∨ b = g + 1) wx) (.slice a2 nf c2) t.funs
theorem OneAt.set6 {c o al n g : Nat} {w : World} {a : Bool} {f p k : Int} {pv fv : Value} (h : OneAt c o al n w) (hg : c < g ∧ o < g ∧ al < g) : OneAt c o al n (Go.Proofs.YtdjhjapfmbcmlaaDoor.set6 w g a f p pv k fv) :=
  ⟨(set6_other (by omega)).trans h.cnt, (set6_other (by omega)).trans h.one, (set6_other (by omega)).trans h.all⟩
theorem jd_rel {M : Nat → Prop} {c o al k g kx : Nat} {t : Ty} {w w6 : World} {ta : Bool} {tf tp tn : Int} {np nf : Nat} {p1 p2 : Value} {a1 a2 : Option Addr} {c1 c2 : Nat} (hb : BoxAt w6 g ta tf tp p1 tn p2) (hr : BoxAt w6 (g + 1) false 0 0 (.slice none 0 0) 0 (.slice none 0 0)) (hs : Stay (· = c) w w6) (hk : OneAt c o al kx w6) (hkx : kx ≤ k + szT t)
    (h1 : TyS w6 (Lo (fun b => M b ∨ b = g ∨ b = g + 1) w6) (.slice a1 np c1) t.pairs) (h2 : TyS w6 (Lo (fun b => M b ∨ b = g ∨ b = g + 1) w6) (.slice a2 nf c2) t.funs) (hg : w.heap.size ≤ g) (hlt : c < g ∧ o < g ∧ al < g) :
    JdRel M c o al k g t w ta tf tp tn np nf ((w6.setCell ⟨g, 3, none⟩ (.slice a1 np c1)).setCell ⟨g, 5, none⟩ (.slice a2 nf c2)) :=
  ⟨a1, c1, a2, c2, kx, hb.s3.s5, (hr.o (by omega)).o (by omega), (hs.new (p := ⟨g, 3, none⟩) hg _).new (p := ⟨g, 5, none⟩) hg _,
    ⟨(Below.heap_setCell _ _ _ _ (by show c ≠ g; omega)).trans ((Below.heap_setCell _ _ _ _ (by show c ≠ g; omega)).trans hk.cnt), (Below.heap_setCell _ _ _ _ (by show o ≠ g; omega)).trans ((Below.heap_setCell _ _ _ _ (by show o ≠ g; omega)).trans hk.one), (Below.heap_setCell _ _ _ _ (by show al ≠ g; omega)).trans ((Below.heap_setCell _ _ _ _ (by show al ≠ g; omega)).trans hk.all)⟩,
    hkx, TySN.set (TySN.set h1 ⟨g, 3, none⟩ (.inr (.inl rfl)) _) ⟨g, 5, none⟩ (.inr (.inl rfl)) _, TySN.set (TySN.set h2 ⟨g, 3, none⟩ (.inr (.inl rfl)) _) ⟨g, 5, none⟩ (.inr (.inl rfl)) _⟩
theorem hdU_all (t : Ty) : (hdU t).all = t.all := rfl
theorem hdU_flat (t : Ty) : (hdU t).flat = t.flat := rfl
theorem hdU_pair (t : Ty) : (hdU t).pair = t.pair := rfl
theorem hdU_pairs (t : Ty) : (hdU t).pairs = unTs t.pairs := rfl
theorem hdU_fn (t : Ty) : (hdU t).fn = t.fn := rfl
theorem hdU_funs (t : Ty) : (hdU t).funs = unTs t.funs := rfl
theorem TySN.set6 {N : Nat → Prop} {w : World} {v : Value} {l : List Ty} {g : Nat} {a' : Bool} {f' p' k' : Int} {pv' fv' : Value} (h : TyS w (Lo N w) v l) (hg : N g) : TyS (Go.Proofs.YtdjhjapfmbcmlaaDoor.set6 w g a' f' p' pv' k' fv') (Lo N (Go.Proofs.YtdjhjapfmbcmlaaDoor.set6 w g a' f' p' pv' k' fv')) v l :=
  TySN.set (TySN.set (TySN.set (TySN.set (TySN.set (TySN.set h ⟨g, 0, none⟩ hg _) ⟨g, 1, none⟩ hg _) ⟨g, 2, none⟩ hg _) ⟨g, 3, none⟩ hg _) ⟨g, 4, none⟩ hg _) ⟨g, 5, none⟩ hg _

set_option maxRecDepth 100000 in
set_option maxHeartbeats 32000000 in
theorem jone_succ (n : Nat) (ih : JdOK n) : JdOK (n + 1) := by
  intro t M vx w c o al k hsz hk okt h1 h2 h3 hMc hM hw hx
  have hmf : ∀ (args : Array Value) (w : World), (callFunc 63 args).run Tryd.prog w = .ok (.enter 63 args) w := fun _ _ => rfl
  obtain ⟨x, hxe⟩ : ∃ x, x = unT t := ⟨_, rfl⟩
  rw [← hxe] at hx
  obtain ⟨g, hg⟩ : ∃ g, g = w.heap.size := ⟨_, rfl⟩
  have HX := Lib.hid hx
  obtain ⟨xpa, xpc, xfa, xfc, rfl, xhp, xhf⟩ := hx.form
  obtain ⟨xnp, xhnp⟩ : ∃ n, n = x.pairs.length := ⟨_, rfl⟩
  obtain ⟨xnf, xhnf⟩ : ∃ n, n = x.funs.length := ⟨_, rfl⟩
  obtain ⟨xa, xha⟩ : ∃ a, a = x.all := ⟨_, rfl⟩
  obtain ⟨xf, xhf'⟩ : ∃ a, a = x.flat := ⟨_, rfl⟩
  obtain ⟨xp, xhp'⟩ : ∃ a, a = x.pair := ⟨_, rfl⟩
  obtain ⟨xn, xhn⟩ : ∃ a, a = x.fn := ⟨_, rfl⟩
  rw [← xhnp, ← xhnf, ← xha, ← xhf', ← xhp', ← xhn] at HX ⊢
  have hsx := szT_eq t
  have HLT := Lib.hid (show c < g ∧ o < g ∧ al < g by rw [hg]; exact ⟨hw.cnt.lt, hw.one.lt, hw.all.lt⟩)
  obtain ⟨W0, hW0⟩ : ∃ W0, W0 = (w.alloc (.cells #[.bool xa, .int .i64 xf, .int .i64 xp, (.slice xpa xnp xpc), .int .i64 xn, (.slice xfa xnf xfc)] 24)).alloc (.cells #[.bool false, .int .i64 0, .int .i64 0, (.slice none 0 0), .int .i64 0, (.slice none 0 0)] 24) := ⟨_, rfl⟩
  obtain ⟨W, hW⟩ : ∃ W, W = W0.setCell ⟨c, 0, none⟩ (.int .i64 ((k : Int) + 1)) := ⟨_, rfl⟩
  have hb0 : Below w.heap.size w W0 := by rw [hW0]; exact ((Below.refl _ _).alloc (Nat.le_refl _) _).alloc (by simp) _
  have hlt0 := HLT.out
  have hx0 : BoxAt W0 g xa xf xp (.slice xpa xnp xpc) xn (.slice xfa xnf xfc) := by rw [hW0, hg]; exact (BoxAt.made _ _ _ _ _ _ _).keep ((Below.refl _ _).alloc (Nat.le_refl _) _)
  have hr0 : BoxAt W0 (g + 1) false 0 0 (.slice none 0 0) 0 (.slice none 0 0) := by rw [hW0, hg, ← alloc_hs w (.cells #[.bool xa, .int .i64 xf, .int .i64 xp, (.slice xpa xnp xpc), .int .i64 xn, (.slice xfa xnf xfc)] 24)]; exact BoxAt.made _ _ _ _ _ _ _
  have hw0 := hw.keep hb0
  have HBX := Lib.hid (show BoxAt W g xa xf xp (.slice xpa xnp xpc) xn (.slice xfa xnf xfc) by rw [hW]; exact hx0.o (by omega))
  have HBR := Lib.hid (show BoxAt W (g + 1) false 0 0 (.slice none 0 0) 0 (.slice none 0 0) by rw [hW]; exact hr0.o (by omega))
  have HON := Lib.hid (show OneAt c o al (k + 1) W by
    rw [hW]
    exact ⟨by have := hw0.cnt.set (.int .i64 ((k : Int) + 1)); exact this, (Below.heap_setCell _ _ _ _ (by show o ≠ c; omega)).trans hw0.one, (Below.heap_setCell _ _ _ _ (by show al ≠ c; omega)).trans hw0.all⟩)
  have HS := Lib.hid (show Stay (· = c) w W by rw [hW]; exact Stay.set (N := (· = c)) (.of hb0) rfl _)
  have c1 := hw0.cnt.c
  have c2 := hw0.cnt.fr 0
  rw [hW0] at c1 c2
  have hk2 : (k : Int) + 1 ≤ 300 := by have := szT_pos t; omega
  have hk3 : decide ((300 : Int) < (k : Int) + 1) = false := decide_eq_false (by omega)
  have HMM := Lib.hid (show ∀ b, (M b ∨ b = g ∨ b = g + 1) → b < W.heap.size from fun b h => by
    have := HBR.out.lt
    rcases h with h | h | h
    · have := hM b h; omega
    · omega
    · omega)
  have hlater : ∀ {v : Value} {y : Ty}, TyVN M w v y → TyVN (fun b => M b ∨ b = g ∨ b = g + 1) W v y := fun hv => by
    have h5 := TyVN.later hv hb0 (M := fun b => M b ∨ b = g ∨ b = g + 1) fun b h => h.elim .inl fun h => .inr (by omega)
    rw [hW]; exact h5.set _ (.inl hMc) _
  have C1 := opened_un (fun b => M b ∨ b = g ∨ b = g + 1) t okt (.agg #[.bool xa, .int .i64 xf, .int .i64 xp, .slice xpa xnp xpc, .int .i64 xn, .slice xfa xnf xfc]) W HMM.out (by rw [← hxe]; exact hlater HX.out)
  have CP : ∀ (w1 : World) (pa : Option Addr) (pc : Nat) (k1 : Nat), g + 1 < w1.heap.size → Stay (· = c) w w1 → OneAt c o al k1 w1 → k1 ≤ k + 1 → TyS w1 (Lo (fun b => M b ∨ b = g ∨ b = g + 1) w1) (.slice pa t.pairs.length pc) (unTs t.pairs) →
      Calls Tryd.prog 63 #[.slice pa t.pairs.length pc, .pointer (some ⟨o, 0, none⟩)] w1 fun e w' => (∃ u, e = .returned u ∧ TyS w' (Lo (fun b => M b ∨ b = g ∨ b = g + 1) w') u t.pairs) ∧ Stay (· = c) w1 w' ∧ ∃ k', k' ≤ k1 + szTs t.pairs ∧ OneAt c o al k' w' := fun w1 pa pc k1 hg1 hs1 ho1 hk1 hl1 =>
    jall_any n ih t.pairs _ pa pc w1 c o al k1 (fun y hy => ⟨by have := szTs_mem hy; omega, okt.pair hy⟩) (by omega) h1 h2 h3 (.inl hMc) (fun b h => by have := hs1.size; rcases h with h | h | h <;> first | (have := hM b h; omega) | omega) ho1 hl1
  have CF : ∀ (w1 : World) (pa : Option Addr) (pc : Nat) (k1 : Nat), g + 1 < w1.heap.size → Stay (· = c) w w1 → OneAt c o al k1 w1 → k1 ≤ k + 1 + szTs t.pairs → TyS w1 (Lo (fun b => M b ∨ b = g ∨ b = g + 1) w1) (.slice pa t.funs.length pc) (unTs t.funs) →
      Calls Tryd.prog 63 #[.slice pa t.funs.length pc, .pointer (some ⟨o, 0, none⟩)] w1 fun e w' => (∃ u, e = .returned u ∧ TyS w' (Lo (fun b => M b ∨ b = g ∨ b = g + 1) w') u t.funs) ∧ Stay (· = c) w1 w' ∧ ∃ k', k' ≤ k1 + szTs t.funs ∧ OneAt c o al k' w' := fun w1 pa pc k1 hg1 hs1 ho1 hk1 hl1 =>
    jall_any n ih t.funs _ pa pc w1 c o al k1 (fun y hy => ⟨by have := szTs_mem hy; omega, okt.fun hy⟩) (by omega) h1 h2 h3 (.inl hMc) (fun b h => by have := hs1.size; rcases h with h | h | h <;> first | (have := hM b h; omega) | omega) ho1 hl1
  have ht : t = .mk t.all t.flat t.pair t.pairs t.fn t.funs := t.eta
  have HC1 := Lib.hid C1
  have HCP := Lib.hid CP
  have HCF := Lib.hid CF
  have HT := Lib.hid ht
  have HNE := Lib.hid (show g ≠ c ∧ g + 1 ≠ c ∧ g ≠ o ∧ g ≠ al by omega)
  have HMC := Lib.hid hMc
  have HSX := Lib.hid (show szT t = 1 + szTs t.pairs + szTs t.funs from hsx)
  have HG := Lib.hid hg
  rw [hW0] at hW
  have HW := Lib.hid hW
  clear C1 CP CF ht hsx hg hW hW0 hb0 hx0 hr0 hw0 hlater hsz hk okt h1 h2 h3 hMc hM hw hx ih hxe HX xhp xhf xhnp xhnf xha xhf' xhp' xhn hlt0
  have x0 := HBX.out.c0
  have x1 := HBX.out.c1
  have x2 := HBX.out.c2
  have x3 := HBX.out.c3
  have x4 := HBX.out.c4
  have x5 := HBX.out.c5
  rw [HG.out, HW.out] at x0 x1 x2 x3 x4 x5
  go_enter Tryd.func64, Tryd.ntmps64
  go_wp2_with fail
  rw [← HG.out, ← HW.out]
  refine HC1.out.mono ?_
  rintro e w2 ⟨⟨v, rfl, hv2⟩, hb2⟩
  obtain ⟨ypa, ypc, yfa, yfc, rfl, yhp, yhf⟩ := hv2.form
  simp only [hdU_all, hdU_flat, hdU_pair, hdU_pairs, hdU_fn, hdU_funs, unTs_len] at yhp yhf ⊢
  have hbx := HBX.out.keep hb2
  have HR2 := Lib.hid (HBR.out.keep hb2)
  have HO2 := Lib.hid (HON.out.keep hb2)
  have HS2 := Lib.hid (HS.out.then hb2)
  clear x0 x1 x2 x3 x4 x5 c1 c2
  obtain ⟨ta, hta⟩ : ∃ q, q = t.all := ⟨_, rfl⟩
  obtain ⟨tf, htf⟩ : ∃ q, q = t.flat := ⟨_, rfl⟩
  obtain ⟨tp, htp⟩ : ∃ q, q = t.pair := ⟨_, rfl⟩
  obtain ⟨tn, htn⟩ : ∃ q, q = t.fn := ⟨_, rfl⟩
  obtain ⟨np, hnp⟩ : ∃ q, q = t.pairs.length := ⟨_, rfl⟩
  obtain ⟨nf, hnf⟩ : ∃ q, q = t.funs.length := ⟨_, rfl⟩
  rw [← hta, ← htf, ← htp, ← htn] at HT ⊢
  rw [← hnp] at yhp HCP ⊢
  rw [← hnf] at yhf HCF ⊢
  have HNP := Lib.hid hnp
  have HNF := Lib.hid hnf
  obtain ⟨W2, hW2⟩ : ∃ W2, W2 = set6 w2 g ta tf tp (.slice ypa np ypc) tn (.slice yfa nf yfc) := ⟨_, rfl⟩
  have h6 : Below g w2 W2 := by rw [hW2]; exact Below.set6 (Below.refl _ _) (Nat.le_refl _)
  have HB2 := Lib.hid (show BoxAt W2 g ta tf tp (.slice ypa np ypc) tn (.slice yfa nf yfc) by rw [hW2]; exact hbx.set6)
  have HR3 := Lib.hid (show BoxAt W2 (g + 1) false 0 0 (.slice none 0 0) 0 (.slice none 0 0) by rw [hW2]; exact HR2.out.other6 (by omega))
  have HO3 := Lib.hid (show OneAt c o al (k + 1) W2 from ⟨(h6.block c HLT.out.1).trans HO2.out.cnt, (h6.block o HLT.out.2.1).trans HO2.out.one, (h6.block al HLT.out.2.2).trans HO2.out.all⟩)
  have HS3 := Lib.hid (show Stay (· = c) w W2 from HS2.out.thenB (by rw [← HG.out]; exact h6))
  have HP := Lib.hid (show TyS W2 (Lo (fun b => M b ∨ b = g ∨ b = g + 1) W2) (.slice ypa np ypc) (unTs t.pairs) by rw [hW2]; exact TySN.set6 (g := g) yhp (.inr (.inl rfl)))
  have HF := Lib.hid (show TyS W2 (Lo (fun b => M b ∨ b = g ∨ b = g + 1) W2) (.slice yfa nf yfc) (unTs t.funs) by rw [hW2]; exact TySN.set6 (g := g) yhf (.inr (.inl rfl)))
  have HW2 := Lib.hid hW2
  have y0 := hbx.c0
  have y1 := hbx.c1
  have y2 := hbx.c2
  have y3 := hbx.c3
  have y4 := hbx.c4
  have y5 := hbx.c5
  have yf := hbx.fr
  have z0 := HB2.out.c0
  have z1 := HB2.out.c1
  have z2 := HB2.out.c2
  have z3 := HB2.out.c3
  have z4 := HB2.out.c4
  have z5 := HB2.out.c5
  clear hW2 h6 hbx hv2 hb2 hta htf htp htn hnp hnf yhp yhf
  go_upto_region 5 with fail
  have hw2 := HW2.out
  unfold set6 at hw2
  rw [← hw2]
  clear hw2
  have HSZ := Lib.hid (show 1 + szTs t.pairs + szTs t.funs = szT t from HSX.out.symm)
  go_cut [] from 12 to 21 (fun wx => JdRel M c o al k g t w ta tf tp tn np nf wx)
  case first =>
    rename_i hR hM
    have v1 := HO3.out.all.c
    clear y0 y1 y2 y3 y4 y5 yf
    have hgal : ¬ g = al := HNE.out.2.2.2
    have hgal2 : ¬ al = g := fun e => HNE.out.2.2.2 e.symm
    refine wp_region_noPanic ?_
    refine wp_region_held_drew (S := fun w' => w'.cell? ⟨al, 0, none⟩ = some (.func (.func 63) #[] #[.pointer (some ⟨o, 0, none⟩)])) (by kernel_rfl) (by (try dsimp only); exact v1) (fun hHeld => ?_)
    refine' take_any 0 12 (v := _) ?hi1 ?hd1 (by kernel_rfl) (by kernel_rfl) (by kernel_rfl) (fun _ _ _ h => h) ?hy1 hHeld ?hr1
    case hi1 => (simp only [List.getElem?_toArray, List.getElem?_cons_zero]; rfl)
    case hd1 => rfl
    case hy1 =>
      refine' Or.inl ⟨?hw1, ?hx1⟩
      case hw1 => rfl
      case hx1 => (intro w hSw; (try dsimp only at hSw); go_simp; (try with_reducible rfl))
    (try simp only [Act.put, List.setIfInBounds_toArray, List.set_cons_zero, List.set_cons_succ])
    refine' take_any 1 13 (v := _) ?hi2 ?hd2 (by kernel_rfl) (by kernel_rfl) (by kernel_rfl) (fun _ _ _ h => h) ?hy2 hHeld ?hr2
    case hi2 => (simp only [List.getElem?_toArray, List.getElem?_cons_succ, List.getElem?_cons_zero]; rfl)
    case hd2 => rfl
    case hy2 =>
      refine' Or.inl ⟨?hw2, ?hx2⟩
      case hw2 => rfl
      case hx2 => (intro w hSw; (try dsimp only at hSw); go_simp; (try with_reducible rfl))
    (try simp only [Act.put, List.setIfInBounds_toArray, List.set_cons_zero, List.set_cons_succ])
    refine' take_any 4 16 (v := _) ?hi3 ?hd3 (by kernel_rfl) (by kernel_rfl) (by kernel_rfl) (fun _ _ _ h => h) ?hy3 hHeld ?hr3
    case hi3 => (simp only [List.getElem?_toArray, List.getElem?_cons_succ, List.getElem?_cons_zero]; rfl)
    case hd3 => rfl
    case hy3 =>
      refine' Or.inl ⟨?hw3, ?hx3⟩
      case hw3 => rfl
      case hx3 => (intro w hSw; (try dsimp only at hSw); go_simp; (try with_reducible rfl))
    (try simp only [Act.put, List.setIfInBounds_toArray, List.set_cons_zero, List.set_cons_succ])
    refine' take_any 5 17 (v := _) ?hi4 ?hd4 (by kernel_rfl) (by kernel_rfl) (by kernel_rfl) (fun _ _ _ h => h) ?hy4 hHeld ?hr4
    case hi4 => (simp only [List.getElem?_toArray, List.getElem?_cons_succ, List.getElem?_cons_zero]; rfl)
    case hd4 => rfl
    case hy4 =>
      refine' Or.inl ⟨?hw4, ?hx4⟩
      case hw4 => rfl
      case hx4 => (intro w hSw; (try dsimp only at hSw); go_simp; (try with_reducible rfl))
    (try simp only [Act.put, List.setIfInBounds_toArray, List.set_cons_zero, List.set_cons_succ])
    refine' take_two 2 6 ?hi25 ?hj25 (by kernel_rfl) ?ha25 ?hb25
    case hi25 => (simp only [List.getElem?_toArray, List.getElem?_cons_succ, List.getElem?_cons_zero]; rfl)
    case hj25 => (simp only [List.getElem?_toArray, List.getElem?_cons_succ, List.getElem?_cons_zero]; rfl)
    case ha25 =>
      intro K hK
      go_simp
      go_wp2_with fail
      clear hHeld
      refine hK.out _ _ (by (try dsimp only); exact v1) (fun hHeld => ?_)
      clear hK K
      (try simp only [Act.put, List.setIfInBounds_toArray, List.set_cons_zero, List.set_cons_succ])
      refine' take_two 3 6 ?hi17 ?hj17 (by kernel_rfl) ?ha17 ?hb17
      case hi17 => (simp only [List.getElem?_toArray, List.getElem?_cons_succ, List.getElem?_cons_zero]; rfl)
      case hj17 => (simp only [List.getElem?_toArray, List.getElem?_cons_succ, List.getElem?_cons_zero]; rfl)
      case ha17 =>
        intro K hK
        go_simp
        go_at_call 63
        refine (HCP.out _ _ _ (k + 1) ?g1 ?g2 ?g3 (Nat.le_refl _) ?g5).mono ?_
        case g1 => exact HR3.out.lt
        case g2 => exact HS3.out.then (Below.refl _ _).drew
        case g3 => exact HO3.out.keep (Below.refl _ _).drew
        case g5 => exact TySN.below HP.out (Below.refl _ _).drew
        rintro e w5 ⟨⟨u5, rfl, hu5⟩, hs5, k5, hk5, ho5⟩
        obtain ⟨ua5, uc5, rfl⟩ := hu5.val
        have e5 := HNP.out
        rw [← e5] at hu5 ⊢
        clear e5
        have hz5 := (Stay.of (N := (· = c)) (show Below W2.heap.size W2 W2.drew from (Below.refl _ _).drew)).trans hs5
        have hb5 := HB2.out.stay hz5 HNE.out.1
        have b53 := hb5.c3
        have b55 := hb5.c5
        have v5 := ho5.all.c
        go_wp2_with fail
        clear hHeld
        refine hK.out _ _ (by (try dsimp only); exact v5) (fun hHeld => ?_)
        clear hK K
        (try simp only [Act.put, List.setIfInBounds_toArray, List.set_cons_zero, List.set_cons_succ])
        refine' take_call 6 ?hi5 (by kernel_rfl) ?hr5
        case hi5 => (simp only [List.getElem?_toArray, List.getElem?_cons_succ, List.getElem?_cons_zero]; rfl)
        intro K hK
        go_simp
        go_wp2_with fail
        clear hHeld
        refine hK.out _ _ (by (try dsimp only); exact v5) (fun hHeld => ?_)
        clear hK K
        (try simp only [Act.put, List.setIfInBounds_toArray, List.set_cons_zero, List.set_cons_succ])
        refine' take_any 8 20 (v := _) ?hi6 ?hd6 (by kernel_rfl) (by kernel_rfl) (by kernel_rfl) (fun _ _ _ h => h) ?hy6 hHeld ?hr6
        case hi6 => (simp only [List.getElem?_toArray, List.getElem?_cons_succ, List.getElem?_cons_zero]; rfl)
        case hd6 => rfl
        case hy6 =>
          refine' Or.inl ⟨?hw6, ?hx6⟩
          case hw6 => rfl
          case hx6 => (intro w hSw; (try dsimp only at hSw); go_simp; (try with_reducible rfl))
        (try simp only [Act.put, List.setIfInBounds_toArray, List.set_cons_zero, List.set_cons_succ])
        refine' take_call 7 ?hi7 (by kernel_rfl) ?hr7
        case hi7 => (simp only [List.getElem?_toArray, List.getElem?_cons_succ, List.getElem?_cons_zero]; rfl)
        intro K hK
        go_simp
        go_at_call 63
        refine (HCF.out _ _ _ k5 ?g1 ?g2 ?g3 ?g4 ?g5).mono ?_
        case g1 => exact Nat.lt_of_lt_of_le HR3.out.lt hz5.size
        case g2 => exact HS3.out.trans hz5
        case g3 => exact ho5
        case g4 => omega
        case g5 => exact TySN.stay HF.out (hz5.mono fun b h => .inl (by rw [h]; exact HMC.out))
        rintro e w6 ⟨⟨u6, rfl, hu6⟩, hs6, k6, hk6, ho6⟩
        obtain ⟨ua6, uc6, rfl⟩ := hu6.val
        have e6 := HNF.out
        rw [← e6] at hu6 ⊢
        clear e6
        have hz6 := hz5.trans hs6
        have hb6 := HB2.out.stay hz6 HNE.out.1
        have b63 := hb6.c3
        have b65 := hb6.c5
        have bf6 := hb6.fr
        have v6 := ho6.all.c
        go_wp2_with fail
        clear hHeld
        refine hK.out _ _ (by (try dsimp only); exact v6) (fun hHeld => ?_)
        clear hK K
        (try simp only [Act.put, List.setIfInBounds_toArray, List.set_cons_zero, List.set_cons_succ])
        refine' take_call 9 ?hi8 (by kernel_rfl) ?hr8
        case hi8 => (simp only [List.getElem?_toArray, List.getElem?_cons_succ, List.getElem?_cons_zero]; rfl)
        intro K hK
        go_simp
        clear hHeld
        refine hK.out _ _ (by (try dsimp only); go_keep) (fun hHeld => ?_)
        clear hK K
        (try simp only [Act.put, List.setIfInBounds_toArray, List.set_cons_zero, List.set_cons_succ])
        refine' take_any 10 21 (v := _) ?hi9 ?hd9 (by kernel_rfl) (by kernel_rfl) (by kernel_rfl) (fun _ _ _ h => h) ?hy9 hHeld ?hr9
        case hi9 => (simp only [List.getElem?_toArray, List.getElem?_cons_succ, List.getElem?_cons_zero]; rfl)
        case hd9 => rfl
        case hy9 =>
          refine' Or.inl ⟨?hw9, ?hx9⟩
          case hw9 => rfl
          case hx9 => (intro w hSw; (try dsimp only at hSw); go_simp; (try with_reducible rfl))
        (try simp only [Act.put, List.setIfInBounds_toArray, List.set_cons_zero, List.set_cons_succ])
        refine' take_call 11 ?hi10 (by kernel_rfl) ?hr10
        case hi10 => (simp only [List.getElem?_toArray, List.getElem?_cons_succ, List.getElem?_cons_zero]; rfl)
        intro K hK
        go_simp
        clear hHeld
        refine hK.out _ _ (by (try dsimp only); go_keep) (fun hHeld => ?_)
        clear hK K
        (try simp only [Act.put, List.setIfInBounds_toArray, List.set_cons_zero, List.set_cons_succ])
        refine wpAnyH_done (by kernel_rfl) ?_ _
        refine NoPanic.normal ?_
        refine hM _ _ (Met.intro (hR _ _ ?_))
        (repeat apply Exists.intro)
        exact ⟨jd_rel (k := k) (t := t) hb6 (HR3.out.stay hz6 HNE.out.2.1) (HS3.out.trans hz6) ho6 (by have := HSX.out; omega) (TySN.stay hu5 (hs6.mono fun b h => .inl (by rw [h]; exact HMC.out))) hu6 (by rw [HG.out]; exact Nat.le_refl _) HLT.out, rfl⟩
      case hb17 =>
        intro K hK
        go_simp
        go_wp2_with fail
        clear hHeld
        refine hK.out _ _ (by (try dsimp only); exact v1) (fun hHeld => ?_)
        clear hK K
        (try simp only [Act.put, List.setIfInBounds_toArray, List.set_cons_zero, List.set_cons_succ])
        refine' take_call 3 ?hi11 (by kernel_rfl) ?hr11
        case hi11 => (simp only [List.getElem?_toArray, List.getElem?_cons_succ, List.getElem?_cons_zero]; rfl)
        intro K hK
        go_simp
        go_at_call 63
        refine (HCP.out _ _ _ (k + 1) ?g1 ?g2 ?g3 (Nat.le_refl _) ?g5).mono ?_
        case g1 => exact HR3.out.lt
        case g2 => exact HS3.out.then (Below.refl _ _).drew
        case g3 => exact HO3.out.keep (Below.refl _ _).drew
        case g5 => exact TySN.below HP.out (Below.refl _ _).drew
        rintro e w5 ⟨⟨u5, rfl, hu5⟩, hs5, k5, hk5, ho5⟩
        obtain ⟨ua5, uc5, rfl⟩ := hu5.val
        have e5 := HNP.out
        rw [← e5] at hu5 ⊢
        clear e5
        have hz5 := (Stay.of (N := (· = c)) (show Below W2.heap.size W2 W2.drew from (Below.refl _ _).drew)).trans hs5
        have hb5 := HB2.out.stay hz5 HNE.out.1
        have b53 := hb5.c3
        have b55 := hb5.c5
        have v5 := ho5.all.c
        go_wp2_with fail
        clear hHeld
        refine hK.out _ _ (by (try dsimp only); exact v5) (fun hHeld => ?_)
        clear hK K
        (try simp only [Act.put, List.setIfInBounds_toArray, List.set_cons_zero, List.set_cons_succ])
        refine' take_any 8 20 (v := _) ?hi12 ?hd12 (by kernel_rfl) (by kernel_rfl) (by kernel_rfl) (fun _ _ _ h => h) ?hy12 hHeld ?hr12
        case hi12 => (simp only [List.getElem?_toArray, List.getElem?_cons_succ, List.getElem?_cons_zero]; rfl)
        case hd12 => rfl
        case hy12 =>
          refine' Or.inl ⟨?hw12, ?hx12⟩
          case hw12 => rfl
          case hx12 => (intro w hSw; (try dsimp only at hSw); go_simp; (try with_reducible rfl))
        (try simp only [Act.put, List.setIfInBounds_toArray, List.set_cons_zero, List.set_cons_succ])
        refine' take_call 7 ?hi13 (by kernel_rfl) ?hr13
        case hi13 => (simp only [List.getElem?_toArray, List.getElem?_cons_succ, List.getElem?_cons_zero]; rfl)
        intro K hK
        go_simp
        go_at_call 63
        refine (HCF.out _ _ _ k5 ?g1 ?g2 ?g3 ?g4 ?g5).mono ?_
        case g1 => exact Nat.lt_of_lt_of_le HR3.out.lt hz5.size
        case g2 => exact HS3.out.trans hz5
        case g3 => exact ho5
        case g4 => omega
        case g5 => exact TySN.stay HF.out (hz5.mono fun b h => .inl (by rw [h]; exact HMC.out))
        rintro e w6 ⟨⟨u6, rfl, hu6⟩, hs6, k6, hk6, ho6⟩
        obtain ⟨ua6, uc6, rfl⟩ := hu6.val
        have e6 := HNF.out
        rw [← e6] at hu6 ⊢
        clear e6
        have hz6 := hz5.trans hs6
        have hb6 := HB2.out.stay hz6 HNE.out.1
        have b63 := hb6.c3
        have b65 := hb6.c5
        have bf6 := hb6.fr
        have v6 := ho6.all.c
        go_wp2_with fail
        clear hHeld
        refine hK.out _ _ (by (try dsimp only); exact v6) (fun hHeld => ?_)
        clear hK K
        (try simp only [Act.put, List.setIfInBounds_toArray, List.set_cons_zero, List.set_cons_succ])
        refine' take_call 9 ?hi14 (by kernel_rfl) ?hr14
        case hi14 => (simp only [List.getElem?_toArray, List.getElem?_cons_succ, List.getElem?_cons_zero]; rfl)
        intro K hK
        go_simp
        clear hHeld
        refine hK.out _ _ (by (try dsimp only); go_keep) (fun hHeld => ?_)
        clear hK K
        (try simp only [Act.put, List.setIfInBounds_toArray, List.set_cons_zero, List.set_cons_succ])
        refine' take_any 10 21 (v := _) ?hi15 ?hd15 (by kernel_rfl) (by kernel_rfl) (by kernel_rfl) (fun _ _ _ h => h) ?hy15 hHeld ?hr15
        case hi15 => (simp only [List.getElem?_toArray, List.getElem?_cons_succ, List.getElem?_cons_zero]; rfl)
        case hd15 => rfl
        case hy15 =>
          refine' Or.inl ⟨?hw15, ?hx15⟩
          case hw15 => rfl
          case hx15 => (intro w hSw; (try dsimp only at hSw); go_simp; (try with_reducible rfl))
        (try simp only [Act.put, List.setIfInBounds_toArray, List.set_cons_zero, List.set_cons_succ])
        refine' take_call 11 ?hi16 (by kernel_rfl) ?hr16
        case hi16 => (simp only [List.getElem?_toArray, List.getElem?_cons_succ, List.getElem?_cons_zero]; rfl)
        intro K hK
        go_simp
        clear hHeld
        refine hK.out _ _ (by (try dsimp only); go_keep) (fun hHeld => ?_)
        clear hK K
        (try simp only [Act.put, List.setIfInBounds_toArray, List.set_cons_zero, List.set_cons_succ])
        refine wpAnyH_done (by kernel_rfl) ?_ _
        refine NoPanic.normal ?_
        refine hM _ _ (Met.intro (hR _ _ ?_))
        (repeat apply Exists.intro)
        exact ⟨jd_rel (k := k) (t := t) hb6 (HR3.out.stay hz6 HNE.out.2.1) (HS3.out.trans hz6) ho6 (by have := HSX.out; omega) (TySN.stay hu5 (hs6.mono fun b h => .inl (by rw [h]; exact HMC.out))) hu6 (by rw [HG.out]; exact Nat.le_refl _) HLT.out, rfl⟩
    case hb25 =>
      intro K hK
      go_simp
      go_wp2_with fail
      clear hHeld
      refine hK.out _ _ (by (try dsimp only); exact v1) (fun hHeld => ?_)
      clear hK K
      (try simp only [Act.put, List.setIfInBounds_toArray, List.set_cons_zero, List.set_cons_succ])
      refine' take_call 2 ?hi18 (by kernel_rfl) ?hr18
      case hi18 => (simp only [List.getElem?_toArray, List.getElem?_cons_succ, List.getElem?_cons_zero]; rfl)
      intro K hK
      go_simp
      go_wp2_with fail
      clear hHeld
      refine hK.out _ _ (by (try dsimp only); exact v1) (fun hHeld => ?_)
      clear hK K
      (try simp only [Act.put, List.setIfInBounds_toArray, List.set_cons_zero, List.set_cons_succ])
      refine' take_call 3 ?hi19 (by kernel_rfl) ?hr19
      case hi19 => (simp only [List.getElem?_toArray, List.getElem?_cons_succ, List.getElem?_cons_zero]; rfl)
      intro K hK
      go_simp
      go_at_call 63
      refine (HCP.out _ _ _ (k + 1) ?g1 ?g2 ?g3 (Nat.le_refl _) ?g5).mono ?_
      case g1 => exact HR3.out.lt
      case g2 => exact HS3.out.then (Below.refl _ _).drew
      case g3 => exact HO3.out.keep (Below.refl _ _).drew
      case g5 => exact TySN.below HP.out (Below.refl _ _).drew
      rintro e w5 ⟨⟨u5, rfl, hu5⟩, hs5, k5, hk5, ho5⟩
      obtain ⟨ua5, uc5, rfl⟩ := hu5.val
      have e5 := HNP.out
      rw [← e5] at hu5 ⊢
      clear e5
      have hz5 := (Stay.of (N := (· = c)) (show Below W2.heap.size W2 W2.drew from (Below.refl _ _).drew)).trans hs5
      have hb5 := HB2.out.stay hz5 HNE.out.1
      have b53 := hb5.c3
      have b55 := hb5.c5
      have v5 := ho5.all.c
      go_wp2_with fail
      clear hHeld
      refine hK.out _ _ (by (try dsimp only); exact v5) (fun hHeld => ?_)
      clear hK K
      (try simp only [Act.put, List.setIfInBounds_toArray, List.set_cons_zero, List.set_cons_succ])
      refine' take_any 8 20 (v := _) ?hi20 ?hd20 (by kernel_rfl) (by kernel_rfl) (by kernel_rfl) (fun _ _ _ h => h) ?hy20 hHeld ?hr20
      case hi20 => (simp only [List.getElem?_toArray, List.getElem?_cons_succ, List.getElem?_cons_zero]; rfl)
      case hd20 => rfl
      case hy20 =>
        refine' Or.inl ⟨?hw20, ?hx20⟩
        case hw20 => rfl
        case hx20 => (intro w hSw; (try dsimp only at hSw); go_simp; (try with_reducible rfl))
      (try simp only [Act.put, List.setIfInBounds_toArray, List.set_cons_zero, List.set_cons_succ])
      refine' take_call 7 ?hi21 (by kernel_rfl) ?hr21
      case hi21 => (simp only [List.getElem?_toArray, List.getElem?_cons_succ, List.getElem?_cons_zero]; rfl)
      intro K hK
      go_simp
      go_at_call 63
      refine (HCF.out _ _ _ k5 ?g1 ?g2 ?g3 ?g4 ?g5).mono ?_
      case g1 => exact Nat.lt_of_lt_of_le HR3.out.lt hz5.size
      case g2 => exact HS3.out.trans hz5
      case g3 => exact ho5
      case g4 => omega
      case g5 => exact TySN.stay HF.out (hz5.mono fun b h => .inl (by rw [h]; exact HMC.out))
      rintro e w6 ⟨⟨u6, rfl, hu6⟩, hs6, k6, hk6, ho6⟩
      obtain ⟨ua6, uc6, rfl⟩ := hu6.val
      have e6 := HNF.out
      rw [← e6] at hu6 ⊢
      clear e6
      have hz6 := hz5.trans hs6
      have hb6 := HB2.out.stay hz6 HNE.out.1
      have b63 := hb6.c3
      have b65 := hb6.c5
      have bf6 := hb6.fr
      have v6 := ho6.all.c
      go_wp2_with fail
      clear hHeld
      refine hK.out _ _ (by (try dsimp only); exact v6) (fun hHeld => ?_)
      clear hK K
      (try simp only [Act.put, List.setIfInBounds_toArray, List.set_cons_zero, List.set_cons_succ])
      refine' take_call 9 ?hi22 (by kernel_rfl) ?hr22
      case hi22 => (simp only [List.getElem?_toArray, List.getElem?_cons_succ, List.getElem?_cons_zero]; rfl)
      intro K hK
      go_simp
      clear hHeld
      refine hK.out _ _ (by (try dsimp only); go_keep) (fun hHeld => ?_)
      clear hK K
      (try simp only [Act.put, List.setIfInBounds_toArray, List.set_cons_zero, List.set_cons_succ])
      refine' take_any 10 21 (v := _) ?hi23 ?hd23 (by kernel_rfl) (by kernel_rfl) (by kernel_rfl) (fun _ _ _ h => h) ?hy23 hHeld ?hr23
      case hi23 => (simp only [List.getElem?_toArray, List.getElem?_cons_succ, List.getElem?_cons_zero]; rfl)
      case hd23 => rfl
      case hy23 =>
        refine' Or.inl ⟨?hw23, ?hx23⟩
        case hw23 => rfl
        case hx23 => (intro w hSw; (try dsimp only at hSw); go_simp; (try with_reducible rfl))
      (try simp only [Act.put, List.setIfInBounds_toArray, List.set_cons_zero, List.set_cons_succ])
      refine' take_call 11 ?hi24 (by kernel_rfl) ?hr24
      case hi24 => (simp only [List.getElem?_toArray, List.getElem?_cons_succ, List.getElem?_cons_zero]; rfl)
      intro K hK
      go_simp
      clear hHeld
      refine hK.out _ _ (by (try dsimp only); go_keep) (fun hHeld => ?_)
      clear hK K
      (try simp only [Act.put, List.setIfInBounds_toArray, List.set_cons_zero, List.set_cons_succ])
      refine wpAnyH_done (by kernel_rfl) ?_ _
      refine NoPanic.normal ?_
      refine hM _ _ (Met.intro (hR _ _ ?_))
      (repeat apply Exists.intro)
      exact ⟨jd_rel (k := k) (t := t) hb6 (HR3.out.stay hz6 HNE.out.2.1) (HS3.out.trans hz6) ho6 (by have := HSX.out; omega) (TySN.stay hu5 (hs6.mono fun b h => .inl (by rw [h]; exact HMC.out))) hu6 (by rw [HG.out]; exact Nat.le_refl _) HLT.out, rfl⟩
  case rest =>
    obtain ⟨a1, e1, a2, e2, kx, hb7, hr7, hs7, ho7, hk7, hp7, hf7⟩ := hcut
    have x0 := hb7.c0
    have x1 := hb7.c1
    have x2 := hb7.c2
    have x3 := hb7.c3
    have x4 := hb7.c4
    have x5 := hb7.c5
    have r0 := hr7.c0
    have r1 := hr7.c1
    have r2 := hr7.c2
    have r3 := hr7.c3
    have r4 := hr7.c4
    have r5 := hr7.c5
    have rf := hr7.fr
    have HP7 := Lib.hid hp7
    have HF7 := Lib.hid hf7
    have HS7 := Lib.hid hs7
    have HO7 := Lib.hid ho7
    have HK7 := Lib.hid hk7
    clear hb7 hr7 hs7 ho7 hk7 hp7 hf7
    clear y0 y1 y2 y3 y4 y5 yf z0 z1 z2 z3 z4 z5
    go_wp2
    refine bodyPost_ret (v := .agg #[.bool ta, .int .i64 tf, .int .i64 tp, .slice a1 np e1, .int .i64 tn, .slice a2 nf e2]) (by simp [results, Tryd.results64, go_sem, r0, r1, r2, r3, r4, r5]) rfl ⟨⟨_, rfl, ?_⟩, stay_six (g := g + 1) HS7.out (by rw [HG.out]; omega), kx, HK7.out, ?_⟩
    · have hz := (TyVN.mk (a := ta) (f := tf) (p := tp) (g := tn) HP7.out HF7.out)
      rw [← HT.out] at hz
      exact (TyVN.set6 (g := g + 1) hz (.inr (.inr rfl))).mono fun _ _ h => .inl h
    · exact OneAt.set6 (g := g + 1) HO7.out (by have := HLT.out; omega)
end Go.Proofs.YtdjhjapfmbcmlaaDoor
