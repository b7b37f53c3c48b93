import Derived.Test.YtdjhjapfmbcmlaaDoorTyRo
namespace Go.Proofs.YtdjhjapfmbcmlaaDoor
open Go.RowKit

theorem bytes_id (x : ByteArray) : (⟨x.data.toList.toArray⟩ : ByteArray) = x := by cases x; simp
def PaOK (n : Nat) : Prop := ∀ (d : Dat) (t : Ty) (N : Nat → Prop) (v : Value) (w : World) (ar : Nat), szD d ≤ n → szD d ≤ 100000 → parF d = some t → ar + szD d ≤ 131072 → (∀ b, N b → b < w.heap.size) → FN w → DatVN N w v d →
    Calls Tryd.prog 42 #[v, .int .i64 ar] w (NamPost N t w)

set_option maxRecDepth 100000 in
set_option maxHeartbeats 32000000 in
theorem parse_sym (x : ByteArray) (t : Ty) (N : Nat → Prop) (l : List Dat) (a : Option Addr) (c : Nat) (w : World) (ar : Nat) (h : wordT x.data.toList = some t) (hFN : FN w) :
    Calls Tryd.prog 42 #[.agg #[.int .i64 1, .string x, .slice a l.length c], .int .i64 ar] w (NamPost N t w) := by
  obtain ⟨g, hg⟩ : ∃ g, g = w.heap.size := ⟨_, rfl⟩
  obtain ⟨nl, hnl⟩ : ∃ n, n = l.length := ⟨_, rfl⟩
  rw [← hnl]
  obtain ⟨W, hW⟩ : ∃ W, W = (w.alloc (.cells #[.int .i64 1, .string x, .slice a nl c] 39)).alloc (.cells #[.bool false, .int .i64 0, .int .i64 0, (.slice none 0 0), .int .i64 0, (.slice none 0 0)] 24) := ⟨_, rfl⟩
  have HBW := Lib.hid (show Below w.heap.size w W by rw [hW]; exact ((Below.refl _ _).alloc (Nat.le_refl _) _).alloc (by simp) _)
  have HR := Lib.hid (show BoxAt W (g + 1) false 0 0 (.slice none 0 0) 0 (.slice none 0 0) by
    rw [hW, hg]; have := BoxAt.made (w.alloc (.cells #[.int .i64 1, .string x, .slice a nl c] 39)) false 0 0 (.slice none 0 0) 0 (.slice none 0 0)
    simp only [alloc_hs] at this
    exact this)
  have C := named_p (fun b => N b ∨ b = g + 1) x.data.toList t h W (hFN.below HBW.out)
  rw [bytes_id] at C
  have HC := Lib.hid C
  have HW := Lib.hid hW
  have HG := Lib.hid hg
  clear C hW hg hnl h hFN
  go_enter Tryd.func42, Tryd.ntmps42
  go_wp2_with fail
  rw [← HG.out, ← HW.out]
  refine HC.out.mono ?_
  rintro e w9 ⟨⟨v, rfl, hv9⟩, hb9⟩
  obtain ⟨va, vf, vp, vpa, vnp, vpc, vk, vfa, vnf, vfc, rfl⟩ := hv9.shape
  have hr := HR.out.keep hb9
  have r0 := hr.c0
  have r1 := hr.c1
  have r2 := hr.c2
  have r3 := hr.c3
  have r4 := hr.c4
  have r5 := hr.c5
  have rf := hr.fr
  have HV := Lib.hid hv9
  have HB9 := Lib.hid (HBW.out.trans (hb9.mono HBW.out.size))
  clear hv9 hb9 hr
  go_wp2
  refine bodyPost_ret (v := .tuple #[.agg #[.bool va, .int .i64 vf, .int .i64 vp, .slice vpa vnp vpc, .int .i64 vk, .slice vfa vnf vfc], .bool true]) (by simp [results, Tryd.results42, go_sem, r0, r1, r2, r3, r4, r5]) rfl ⟨⟨_, rfl, ?_⟩, Below.set6 (g := g + 1) HB9.out (by rw [HG.out]; omega)⟩
  exact (TyVN.set6 (g := g + 1) HV.out (.inr rfl)).mono fun _ _ h => .inl h

set_option maxRecDepth 100000 in
set_option maxHeartbeats 32000000 in
theorem parse_row (n : Nat) (ih : PaOK n) (x0 : ByteArray) (l0 r : List Dat) (ts : List Ty) (t : Ty) (N : Nat → Prop) (x : ByteArray) (a : Option Addr) (c : Nat) (w : World) (ar : Nat) (hne : 0 < r.length) (hsz : szDs r < n) (hbig : szDs r ≤ 99999) (hp : parL r = some ts) (ht : formP x0.data.toList ts = some t) (har : ar + 1 + szDs r ≤ 131072) (hN : ∀ b, N b → b < w.heap.size) (hFN : FN w)
    (hl : SliceOf w (Lo N w) (.slice a (r.length + 1) c) (.mk 1 x0 l0 :: r)) :
    Calls Tryd.prog 42 #[.agg #[.int .i64 5, .string x, .slice a (r.length + 1) c], .int .i64 ar] w (NamPost N t w) := by
  obtain ⟨i0, hi, hz0, hz1, hz2⟩ := info_parts Tryd.infoTy
  obtain ⟨g, hg⟩ : ∃ g, g = w.heap.size := ⟨_, rfl⟩
  have hroom := hl.room
  have hrl := szDs_len r
  have hpg := parL_get r ts hp
  rcases hl.inv with ⟨h, _⟩ | ⟨b, off, cap, rs, e, hlo, -, hrows, hraw⟩
  · cases h
  injection e with e1 e2 e3
  subst e1
  have h0 := hrows 0 (by rw [hraw.1]; simp)
  have hr0 := hraw.2 0 (by simp)
  obtain ⟨f0, f1, f2⟩ := h0
  rw [hr0.1] at f0
  rw [hr0.2.1] at f1
  simp only [Nat.zero_mul, Nat.add_zero, List.getD_cons_zero, Dat.kind, Dat.text] at f0 f1
  obtain ⟨m, hm⟩ : ∃ m, m = r.length := ⟨_, rfl⟩
  rw [← hm] at hroom hrl hpg ⊢
  obtain ⟨W, hW⟩ : ∃ W, W = (w.alloc (.cells #[.int .i64 5, .string x, .slice (some ⟨b, off, none⟩) (m + 1) c] 39)).alloc (.cells #[.bool false, .int .i64 0, .int .i64 0, (.slice none 0 0), .int .i64 0, (.slice none 0 0)] 24) := ⟨_, rfl⟩
  have HBW := Lib.hid (show Below w.heap.size w W by rw [hW]; exact ((Below.refl _ _).alloc (Nat.le_refl _) _).alloc (by simp) _)
  have HD := Lib.hid (show DBox W g 5 x (.slice (some ⟨b, off, none⟩) (m + 1) c) by rw [hW, hg]; exact (DBox.made _ _ _ _).keep ((Below.refl _ _).alloc (Nat.le_refl _) _))
  have HR := Lib.hid (show BoxAt W (g + 1) false 0 0 (.slice none 0 0) 0 (.slice none 0 0) by
    rw [hW, hg]; have := BoxAt.made (w.alloc (.cells #[.int .i64 5, .string x, .slice (some ⟨b, off, none⟩) (m + 1) c] 39)) false 0 0 (.slice none 0 0) 0 (.slice none 0 0)
    simp only [alloc_hs] at this
    exact this)
  have hbl : b < w.heap.size := hlo.1
  have HLO := Lib.hid hbl
  have HQ1 := Lib.hid f1
  have q0 := (HBW.out.cell (p := ⟨b, off, none⟩) hbl).trans f0
  have q1 := (HBW.out.cell (p := ⟨b, off + 1, none⟩) hbl).trans f1
  have d0 := HD.out.c0
  have d1 := HD.out.c1
  have d2 := HD.out.c2
  have hm0 : (m : Int) ≤ 99999 := by omega
  have hm1 : (0 : Int) ≤ (m : Int) := by omega
  have hcap : (m : Int) + 1 ≤ (c : Int) := by omega
  have hcap2 : m + 1 ≤ c := hroom
  have HW := Lib.hid hW
  have HG := Lib.hid hg
  rw [HW.out] at q0 q1 d0 d1 d2
  rw [HG.out] at d0 d1 d2
  have q2 : ((m : Int) + 1 == 0) = false := beq_false_of_ne (by omega)
  have HROWS := Lib.hid hrows
  have HRAW := Lib.hid hraw
  have HIH := Lib.hid ih
  have HTS := Lib.hid hpg
  have HT := Lib.hid ht
  have HN := Lib.hid hN
  have HFN := Lib.hid hFN
  have HM := Lib.hid hm
  have HNE := Lib.hid (show 0 < m by rw [hm]; exact hne)
  have HNUM := Lib.hid (show szDs r < n ∧ szDs r ≤ 99999 ∧ ar + 1 + szDs r ≤ 131072 from ⟨hsz, hbig, har⟩)
  clear hrows hraw ih hp hpg ht hN hFN hm hne hsz hbig har hl hlo e2 e3 hr0 f0 f1 f2 hW hg hrl hbl hroom
  have har3 : decide ((131072 : Int) < (ar : Int)) = false := decide_eq_false (by have := HNUM.out; omega)
  have hcI : ¬ ((c : Int) - 1 = 0) := by have := HNE.out; omega
  go_enter Tryd.func42, Tryd.ntmps42
  go_wp2
  have B1 := Lib.hid (show N = N from rfl)
  go_loopw [6, 8, 9, 10, 45] (fun v _ _ _ i wr => ∃ (j : Nat) (L : List Ty) (a' : Option Addr) (c' : Nat), j ≤ m ∧ i = .int .i64 j ∧ v = .slice a' L.length c' ∧ Hid (L = ts.take j) ∧ Hid (RowT (fun b => N b ∨ b = g + 1) (g + 2) wr (.slice a' L.length c') L) ∧ Hid (Below w.heap.size w wr) ∧ Hid (DBox wr g 5 x (.slice (some ⟨b, off, none⟩) (m + 1) c)) ∧ Hid (BoxAt wr (g + 1) false 0 0 (.slice none 0 0) 0 (.slice none 0 0))) (fun _ _ _ _ i _ => m - (intOf i).toNat)
  case atStart => exact ⟨0, [], none, 0, Nat.zero_le _, rfl, rfl, Lib.hid (by simp), Lib.hid RowT.nil, by rw [← HW.out]; exact HBW, by rw [← HW.out]; exact HD, by rw [← HW.out]; exact HR⟩
  case round =>
    obtain ⟨j, L, a', c', hj, rfl, rfl, HE, HROW, HB, HDB, HR⟩ := hrel
    by_cases hgo : j < m
    · have hlt : (j : Int) < m := by omega
      have har4 : (ar : Int) ≤ 131072 := by have := HNUM.out; omega
      obtain ⟨d, hd⟩ : ∃ d, r.getD j dat0 = d := ⟨_, rfl⟩
      obtain ⟨ty, hty⟩ : ∃ d, ts.getD j ty0 = d := ⟨_, rfl⟩
      have hkl : j < r.length := by rw [← HM.out]; exact hgo
      have h0 := HROWS.out (j + 1) (by rw [HRAW.out.1, List.length_cons]; omega)
      have hr0 := HRAW.out.2 (j + 1) (by rw [List.length_cons]; omega)
      rw [List.getD_cons_succ, hd] at hr0
      obtain ⟨rd, hrd⟩ : ∃ q, q = rs.getD (j + 1) draw0 := ⟨_, rfl⟩
      rw [← hrd] at h0 hr0
      obtain ⟨rk, rt, rv⟩ := rd
      obtain ⟨f0, f1, f2⟩ := h0
      have hdv : DatVN N w (.agg #[.int .i64 rk, .string rt, rv]) d := ⟨⟨rk, rt, rv⟩, rfl, hr0⟩
      obtain ⟨ua, un, uc, hsh⟩ := hdv.shape
      simp only [Value.agg.injEq, Array.mk.injEq, List.cons.injEq, Value.int.injEq, Value.string.injEq, true_and, and_true] at hsh
      obtain ⟨e1, e2, rfl⟩ := hsh
      subst e1 e2
      simp only at f0 f1 f2
      have hoff : off + (j + 1) * 3 = off + 3 + j * 3 := by omega
      rw [hoff] at f0 f1 f2
      have hcc : ∀ o, wr.cell? ⟨b, o, none⟩ = w.cell? ⟨b, o, none⟩ := fun o => HB.out.cell (p := ⟨b, o, none⟩) HLO.out
      have e0 := (hcc _).trans f0
      have e1 := (hcc _).trans f1
      have e2 := (hcc _).trans f2
      obtain ⟨rs', hown, hraw⟩ := HROW.out
      have hparf : parF d = some ty := by rw [← hd, ← hty]; exact HTS.out.2 j hgo
      have hszd : szD d ≤ szDs r := by rw [← hd]; exact szDs_get r j hkl
      have hLl : L.length = j := by rw [HE.out, List.length_take, HTS.out.1]; omega
      have hLn : L ++ [ty] = ts.take (j + 1) := by
        have hts : j < ts.length := by rw [HTS.out.1]; exact hgo
        rw [List.take_succ_eq_append_getElem hts, ← hty, HE.out]; simp [List.getD_eq_getElem?_getD, hts]
      have C : ∀ w1, Below wr.heap.size wr w1 → Calls Tryd.prog 42 #[.agg #[.int .i64 d.kind, .string d.text, .slice ua un uc], .int .i64 ((ar + 1 : Nat) : Int)] w1 (NamPost (fun b => (N b ∨ b = g + 1) ∨ (Value.slice a' L.length c').ownBlock = some b) ty w1) := fun w1 h1 => by
        have hn := HNUM.out
        refine HIH.out d ty _ _ w1 (ar + 1) (by omega) (by omega) hparf (by omega) (fun b h => ?_) (HFN.out.below (HB.out.trans (h1.mono HB.out.size))) (hdv.later (HB.out.trans (h1.mono HB.out.size)) fun b h => ?_)
        · rcases h with (h | h) | h
          · have := HN.out b h; have := HB.out.size; have := h1.size; omega
          · have := HR.out.lt; have := h1.size; omega
          · have := (hown.lt b h).2; have := h1.size; omega
        · rcases h with (h | h) | h
          · exact .inl h
          · exact .inr (by rw [h, HG.out]; omega)
          · exact .inr (by have := (hown.lt b h).1; rw [HG.out] at this; omega)
      obtain ⟨dk, hdk⟩ : ∃ k, k = d.kind := ⟨_, rfl⟩
      obtain ⟨dt, hdt⟩ : ∃ k, k = d.text := ⟨_, rfl⟩
      rw [← hdk] at C e0
      rw [← hdt] at C e1
      obtain ⟨nL, hnL⟩ : ∃ n, n = L.length := ⟨_, rfl⟩
      rw [← hnL] at hown hraw C
      rw [show ((ar + 1 : Nat) : Int) = (ar : Int) + 1 by omega] at C
      have hb3 : Below wr.heap.size wr (wr.alloc (.cells #[.int .i64 dk, .string dt, .slice ua un uc] 39)) := (Below.refl _ _).alloc (Nat.le_refl _) _
      have HC2 := Lib.hid (C _ hb3)
      have HB3 := Lib.hid (HB.out.trans (hb3.mono HB.out.size))
      have HD3 := Lib.hid (HDB.out.keep hb3)
      have HR3 := Lib.hid (HR.out.keep hb3)
      have HROW3 := Lib.hid (HROW.out.below hb3)
      have HDX := Lib.hid (show DBox (wr.alloc (.cells #[.int .i64 dk, .string dt, .slice ua un uc] 39)) wr.heap.size dk dt (.slice ua un uc) from DBox.made _ _ _ _)
      have HLN := Lib.hid hLn
      have HLL := Lib.hid (show nL = j ∧ nL = L.length from ⟨by omega, hnL⟩)
      obtain ⟨w3, hw3⟩ : ∃ x, x = wr.alloc (.cells #[.int .i64 dk, .string dt, .slice ua un uc] 39) := ⟨_, rfl⟩
      obtain ⟨g3, hg3⟩ : ∃ x, x = wr.heap.size := ⟨_, rfl⟩
      have hm : (wr.alloc (.cells #[.int .i64 dk, .string dt, .slice ua un uc] 39)).heap.size = wr.heap.size + 1 := alloc_hs _ _
      have x0' := HDX.out.c0
      have x1' := HDX.out.c1
      have x2' := HDX.out.c2
      rw [← hw3] at HC2 HB3 HD3 HR3 HROW3 HDX
      rw [← hg3] at HDX
      have HW3 := Lib.hid hw3
      have HGO := Lib.hid hgo
      rw [← hnL]
      clear f0 f1 f2 hcc hdv hr0 C hkl hd hty hparf hszd hdk hdt hnL hgo hj hLn hLl hb3 hw3 hown hraw HROW HE hoff hrd hm hg3
      go_wp2_with fail
      rw [← HW3.out]
      refine HC2.out.mono ?_
      rintro e9 w4 ⟨⟨u, rfl, hu⟩, hb4⟩
      obtain ⟨va, vf, vp, vpa, vnp, vpc, vk, vfa, vnf, vfc, rfl⟩ := hu.shape
      have hdr := hu.raw
      obtain ⟨rs', hown, hraw⟩ := HROW3.out.below hb4
      rw [← HLL.out.2] at hown hraw
      have HB4 := Lib.hid (HB3.out.trans (hb4.mono HB3.out.size))
      have HR4 := Lib.hid (HR3.out.keep hb4)
      have HD4 := Lib.hid (HD3.out.keep hb4)
      obtain ⟨w4b, hw4b⟩ : ∃ x, x = w4.alloc (.cells #[.bool va, .int .i64 vf, .int .i64 vp, .slice vpa vnp vpc, .int .i64 vk, .slice vfa vnf vfc] 24) := ⟨_, rfl⟩
      have hb5 : Below w4.heap.size w4 w4b := by rw [hw4b]; exact (Below.refl _ _).alloc (Nat.le_refl _) _
      have HDR := Lib.hid (hdr.mono (ok' := fun b => Lo (fun b => (N b ∨ b = g + 1) ∨ (Value.slice a' nL c').ownBlock = some b) w4b b) (fun b h => ⟨Nat.lt_of_lt_of_le h.1 hb5.size, h.2⟩) fun _ _ h => hb5.cell (p := ⟨_, _, none⟩) h.1)
      have HRAW4 := Lib.hid (hraw.mono (ok' := fun b => Lo (fun b => N b ∨ b = g + 1) w4b b ∧ (Value.slice a' nL c').ownBlock ≠ some b) (fun b h => ⟨⟨Nat.lt_of_lt_of_le h.1.1 hb5.size, h.1.2⟩, h.2⟩) fun _ _ h => hb5.cell (p := ⟨_, _, none⟩) h.1.1)
      have HOWN := Lib.hid (show (w4b.alloc (.cells #[.bool va, .int .i64 vf, .int .i64 vp, .slice vpa vnp vpc, .int .i64 vk, .slice vfa vnf vfc] 24)).ownsRow (g + 2) 24 6 (.slice a' nL c') nL (rawsCells rs') by rw [hw4b]; exact (hown.alloc (.cells #[.bool va, .int .i64 vf, .int .i64 vp, .slice vpa vnp vpc, .int .i64 vk, .slice vfa vnf vfc] 24)).alloc (.cells #[.bool va, .int .i64 vf, .int .i64 vp, .slice vpa vnp vpc, .int .i64 vk, .slice vfa vnf vfc] 24))
      have HBB := Lib.hid (HB4.out.trans (hb5.mono HB4.out.size))
      have HRB := Lib.hid (HR4.out.keep hb5)
      have HDB := Lib.hid (HD4.out.keep hb5)
      have HBX := Lib.hid (show BoxAt w4b w4.heap.size va vf vp (.slice vpa vnp vpc) vk (.slice vfa vnf vfc) by rw [hw4b]; exact BoxAt.made _ _ _ _ _ _ _)
      have hsz4 : w4b.heap.size = w4.heap.size + 1 := by rw [hw4b]; exact alloc_hs _ _
      have hw5 : ∀ o, w4b.alloc o = (w4.alloc (.cells #[.bool va, .int .i64 vf, .int .i64 vp, .slice vpa vnp vpc, .int .i64 vk, .slice vfa vnf vfc] 24)).alloc o := fun o => by rw [hw4b]
      have b0 := HBX.out.c0
      have b1 := HBX.out.c1
      have b2 := HBX.out.c2
      have b3 := HBX.out.c3
      have b4 := HBX.out.c4
      have b5 := HBX.out.c5
      rw [hw4b] at b0 b1 b2 b3 b4 b5
      have HW4 := Lib.hid hw4b
      have HSZ4 := Lib.hid hsz4
      have HW5 := Lib.hid hw5
      clear hu hdr hown hraw hb4 hb5 hw4b hsz4 hw5
      have hn1 : nL + 1 ≤ 200000 := by have := HLL.out.1; have := HGO.out; omega
      clear x0' x1' x2' e0 e1 e2
      go_wp2_with (at_builtin; refine wpList_append_lies _ rfl _ _ 22 rfl (g + 2) 24 i0 (.agg #[.bool false, .int .i64 0, .int .i64 0, .slice none 0 0, .int .i64 0, .slice none 0 0]) 6 80 Tryd.underlying22 hi hz0 hz1 hz2 rfl (by decide) _ nL (rawsCells rs') rfl (HW5.out (.cells #[.bool va, .int .i64 vf, .int .i64 vp, .slice vpa vnp vpc, .int .i64 vk, .slice vfa vnf vfc] 24) ▸ HOWN.out) ⟨w4.heap.size + 1, 0, none⟩ 1 1 (rawCells ⟨va, vf, vp, .slice vpa vnp vpc, vk, .slice vfa vnf vfc⟩) rfl rfl ?k1 ?k2 (by omega) ?k3 ?k4 ?k5 (w4.heap.size + 2) ?k6 ?_)
      case k1 => rw [← HW5.out, ← HSZ4.out]; exact World.news_of_block (heap_alloc_new w4b _)
      case k2 => intro x hx; simp only [rawCells, List.mem_cons, List.not_mem_nil, or_false] at hx; rcases hx with rfl | rfl | rfl | rfl | rfl | rfl <;> rfl
      case k3 => unfold maxLen; omega
      case k4 => omega
      case k5 => rw [alloc_hs, alloc_hs]; have := HR4.out.lt; omega
      case k6 => rw [alloc_hs, alloc_hs]
      intro gg cap w5 hown5 hgrow5 hlies5 hlt5
      rw [← HW5.out] at hgrow5
      have hlies6 : (Value.slice a' nL c').ownBlock = some gg ∨ gg = w4b.heap.size + 1 := hlies5.imp id fun h => by rw [HSZ4.out]; exact h
      have hrow5 : RowT (fun b => N b ∨ b = g + 1) (g + 2) w5 (.slice (some ⟨gg, 0, none⟩) (nL + 1) cap) (L ++ [ty]) := by
        have h2 : RawOf w4b (fun b => Lo (fun b => N b ∨ b = g + 1) w4b b ∧ (Value.slice a' nL c').ownBlock ≠ some b) ⟨va, vf, vp, .slice vpa vnp vpc, vk, .slice vfa vnf vfc⟩ ty := HDR.out.mono (fun b h => ⟨⟨h.1, fun e => h.2 (.inl e)⟩, fun e => h.2 (.inr e)⟩) fun _ _ _ => rfl
        have h1 := HRAW4.out
        have hn := HLL.out.2
        rw [hn] at h1 h2 hown5 hgrow5 hlies6 ⊢
        exact rowt_push h1 h2 hgrow5 hlies6 hown5
      have hown4 := HOWN.out
      have hge : ∀ k, (Value.slice a' nL c').ownBlock = some k → g + 2 ≤ k := fun k hk => (hown4.lt k hk).1
      have hR5 : BoxAt w5 (g + 1) false 0 0 (.slice none 0 0) 0 (.slice none 0 0) := by
        have h1 := HRB.out.lt
        refine (hgrow5.block (g + 1) (by rw [alloc_hs]; omega) fun e => ?_).trans ((Below.heap_alloc _ _ _ h1).trans HRB.out)
        have := hge (g + 1) e.symm; omega
      have hD5 : DBox w5 g 5 x (.slice (some ⟨b, off, none⟩) (m + 1) c) := by
        have h1 : g < w4b.heap.size := by have := HRB.out.lt; omega
        refine (hgrow5.block g (by rw [alloc_hs]; omega) fun e => ?_).trans ((Below.heap_alloc _ _ _ h1).trans HDB.out)
        have := hge g e.symm; omega
      have hB5 : Below w.heap.size w w5 := (HBB.out.alloc HBB.out.size _).grown hgrow5 (by rw [alloc_hs]; have := HBB.out.size; omega) fun k hk => by have := hge k hk; rw [HG.out] at this; omega
      have HROW5 := Lib.hid hrow5
      have HR5 := Lib.hid hR5
      have HD5 := Lib.hid hD5
      have HB5 := Lib.hid hB5
      clear hrow5 hR5 hD5 hB5 hge hown4 hown5 hgrow5 hlies5 hlies6 hlt5 b0 b1 b2 b3 b4 b5
      go_wp2
      refine ⟨⟨j + 1, L ++ [ty], some ⟨gg, 0, none⟩, cap, by have := HGO.out; omega, by go_num, ?_, HLN, ?_, HB5, HD5, HR5⟩, ?_⟩
      · rw [List.length_append, List.length_cons, List.length_nil, ← HLL.out.2]
      · rw [List.length_append, List.length_cons, List.length_nil, ← HLL.out.2]; exact HROW5
      · have := HGO.out; simp [intOf]; omega
    · have hjn : j = m := by omega
      have hlt : ¬ (j : Int) < m := by omega
      have hL : L = ts := by rw [HE.out, hjn, ← HTS.out.1, List.take_length]
      have hLL : L.length ≤ 99999 ∧ L.length ≤ c' := by
        refine ⟨by rw [hL, HTS.out.1]; omega, ?_⟩
        obtain ⟨rs', hown, _⟩ := HROW.out
        rcases hown.2 with ⟨hv, h0⟩ | ⟨gg, cap', cur, hv, _, _, hle, _⟩
        · omega
        · injection hv with _ _ h1
          rw [h1]; exact hle
      have hdone := HROW.out.done (fun b h => h.elim (fun h => by have := HN.out b h; have := HG.out; omega) (fun h => by omega)) (by unfold maxLen; omega)
      have C := formed_p (fun b => N b ∨ b = g + 1) x0.data.toList L t (by rw [hL]; exact HT.out) a' c' wr (fun b h => h.elim (fun h => Nat.lt_of_lt_of_le (HN.out b h) HB.out.size) (fun h => by rw [h]; exact HR.out.lt)) hdone (by omega) hLL.2
      rw [bytes_id] at C
      obtain ⟨nL, hnL⟩ : ∃ n, n = L.length := ⟨_, rfl⟩
      rw [← hnL] at C ⊢
      have HC2 := Lib.hid C
      have d0 := HDB.out.c0
      have d1 := HDB.out.c1
      have d2 := HDB.out.c2
      have q1 := (HB.out.cell (p := ⟨b, off + 1, none⟩) HLO.out).trans HQ1.out
      rw [HG.out] at d0 d1 d2
      clear hjn hL hLL hdone C hnL hgo hj HROW HE
      go_wp2_with fail
      refine HC2.out.mono ?_
      rintro e w9 ⟨⟨v, rfl, hv9⟩, hb9⟩
      obtain ⟨va, vf, vp, vpa, vnp, vpc, vk, vfa, vnf, vfc, rfl⟩ := hv9.shape
      have hr := HR.out.keep hb9
      have r0 := hr.c0
      have r1 := hr.c1
      have r2 := hr.c2
      have r3 := hr.c3
      have r4 := hr.c4
      have r5 := hr.c5
      have rf := hr.fr
      have HV := Lib.hid hv9
      have HB9 := Lib.hid (HB.out.trans (hb9.mono HB.out.size))
      clear hv9 hb9 hr d0 d1 d2 q1
      rw [← HG.out]
      go_wp2
      refine bodyPost_ret (v := .tuple #[.agg #[.bool va, .int .i64 vf, .int .i64 vp, .slice vpa vnp vpc, .int .i64 vk, .slice vfa vnf vfc], .bool true]) (by simp [results, Tryd.results42, go_sem, r0, r1, r2, r3, r4, r5]) rfl ⟨⟨_, rfl, ?_⟩, Below.set6 (g := g + 1) HB9.out (by rw [HG.out]; omega)⟩
      exact (TyVN.set6 (g := g + 1) HV.out (.inr rfl)).mono fun _ _ h => .inl h

theorem dat_form {N : Nat → Prop} {w : World} {v : Value} {k : Int} {x : ByteArray} {l : List Dat} (h : DatVN N w v (.mk k x l)) : ∃ a c, v = .agg #[.int .i64 k, .string x, .slice a l.length c] ∧ SliceOf w (Lo N w) (.slice a l.length c) l := by
  obtain ⟨⟨k', x', sv⟩, rfl, h1, h2, h3⟩ := h
  simp only [Dat.kind, Dat.text, Dat.list] at h1 h2 h3
  obtain ⟨a, c, rfl⟩ := h3.val
  subst h1 h2
  exact ⟨a, c, rfl, h3⟩
theorem parse_any : ∀ n : Nat, PaOK n := by
  intro n
  induction n with
  | zero => intro d t N v w ar h; have := szD_eq d; omega
  | succ n ih =>
    intro d t N v w ar hn hbig hp har hN hFN hv
    obtain ⟨k, x, l⟩ := d
    have hsz := szD_eq (.mk k x l)
    obtain ⟨a, c, rfl, hl⟩ := dat_form hv
    simp only [Dat.list] at hsz
    rw [parF] at hp
    by_cases h1 : k = 1
    · subst h1
      rw [if_pos rfl] at hp
      exact parse_sym x t N l a c w ar hp hFN
    · rw [if_neg h1] at hp
      by_cases h5 : k = 5
      · subst h5
        rw [if_pos rfl] at hp
        match l, hp, hl, hsz with
        | [], hp, _, _ => rw [parR] at hp; cases hp
        | .mk k0 x0 l0 :: r, hp, hl, hsz =>
          rw [parR] at hp
          by_cases h0 : k0 = 1 ∧ 0 < r.length
          · rw [if_pos h0] at hp
            obtain ⟨rfl, h0⟩ := h0
            have hs2 : szDs (.mk 1 x0 l0 :: r) = szD (.mk 1 x0 l0) + szDs r := by rw [szDs]
            have hs3 := szD_eq (.mk 1 x0 l0)
            cases hr : parL r with
            | none => rw [hr] at hp; cases hp
            | some ts =>
              rw [hr] at hp
              rw [hsz] at hn hbig har
              exact parse_row n ih x0 l0 r ts t N x a c w ar h0 (by omega) (by omega) hr hp (by omega) hN hFN hl
          · rw [if_neg h0] at hp; cases hp
      · rw [if_neg h5] at hp; cases hp
/-- a datum that parses well is parsed -/
theorem parse_p (d : Dat) (t : Ty) (N : Nat → Prop) (v : Value) (w : World) (hbig : szD d ≤ 100000) (hp : parF d = some t) (hN : ∀ b, N b → b < w.heap.size) (hFN : FN w) (hv : DatVN N w v d) :
    Calls Tryd.prog 42 #[v, .int .i64 0] w (NamPost N t w) := by
  have := parse_any _ d t N v w 0 (Nat.le_refl _) hbig hp (by omega) hN hFN hv
  exact this
end Go.Proofs.YtdjhjapfmbcmlaaDoor
