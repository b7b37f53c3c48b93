import Derived.Test.YtdjhjapfmbcmlaaDoorTyFo
namespace Go.Proofs.YtdjhjapfmbcmlaaDoor
open Go.RowKit

theorem ix0 (w : World) : Sem.run Tryd.prog (Instr.index 77 (.agg #[.string ⟨nInt.toArray⟩, .string ⟨nBool.toArray⟩, .string ⟨nStr.toArray⟩, .string ⟨nSym.toArray⟩, .string ⟨nNull.toArray⟩, .string ⟨nVoid.toArray⟩]) (.int .i64 0)) w = .ok (.string ⟨nInt.toArray⟩) w := by kernel_rfl
theorem ix1 (w : World) : Sem.run Tryd.prog (Instr.index 77 (.agg #[.string ⟨nInt.toArray⟩, .string ⟨nBool.toArray⟩, .string ⟨nStr.toArray⟩, .string ⟨nSym.toArray⟩, .string ⟨nNull.toArray⟩, .string ⟨nVoid.toArray⟩]) (.int .i64 1)) w = .ok (.string ⟨nBool.toArray⟩) w := by kernel_rfl
theorem ix2 (w : World) : Sem.run Tryd.prog (Instr.index 77 (.agg #[.string ⟨nInt.toArray⟩, .string ⟨nBool.toArray⟩, .string ⟨nStr.toArray⟩, .string ⟨nSym.toArray⟩, .string ⟨nNull.toArray⟩, .string ⟨nVoid.toArray⟩]) (.int .i64 2)) w = .ok (.string ⟨nStr.toArray⟩) w := by kernel_rfl
theorem ix3 (w : World) : Sem.run Tryd.prog (Instr.index 77 (.agg #[.string ⟨nInt.toArray⟩, .string ⟨nBool.toArray⟩, .string ⟨nStr.toArray⟩, .string ⟨nSym.toArray⟩, .string ⟨nNull.toArray⟩, .string ⟨nVoid.toArray⟩]) (.int .i64 3)) w = .ok (.string ⟨nSym.toArray⟩) w := by kernel_rfl
theorem ix4 (w : World) : Sem.run Tryd.prog (Instr.index 77 (.agg #[.string ⟨nInt.toArray⟩, .string ⟨nBool.toArray⟩, .string ⟨nStr.toArray⟩, .string ⟨nSym.toArray⟩, .string ⟨nNull.toArray⟩, .string ⟨nVoid.toArray⟩]) (.int .i64 4)) w = .ok (.string ⟨nNull.toArray⟩) w := by kernel_rfl
theorem ix5 (w : World) : Sem.run Tryd.prog (Instr.index 77 (.agg #[.string ⟨nInt.toArray⟩, .string ⟨nBool.toArray⟩, .string ⟨nStr.toArray⟩, .string ⟨nSym.toArray⟩, .string ⟨nNull.toArray⟩, .string ⟨nVoid.toArray⟩]) (.int .i64 5)) w = .ok (.string ⟨nVoid.toArray⟩) w := by kernel_rfl
/-- the names of the first k tags -/
def namesF (f : Int) (k : Nat) : List Dat := ([(1, nInt), (2, nBool), (4, nStr), (8, nSym), (16, nNull), (32, nVoid)].take k).flatMap fun (p : Int × List UInt8) => if bitOf f p.1 then [symD p.2] else []
theorem and_bit : ∀ F, F < 64 → ∀ j, j < 6 → (bits .and .i64 ((F : Nat) : Int) ((2 ^ j : Nat) : Int) != 0) = bitOf ((F : Nat) : Int) ((2 ^ j : Nat) : Int) := by decide +kernel
theorem clr_16 : ∀ F, F < 64 → (0 ≤ bits .andNot .i64 ((F : Nat) : Int) 16 ∧ bits .andNot .i64 ((F : Nat) : Int) 16 ≤ 63) ∧ bitOf (bits .andNot .i64 ((F : Nat) : Int) 16) 1 = bitOf ((F : Nat) : Int) 1 ∧ bitOf (bits .andNot .i64 ((F : Nat) : Int) 16) 2 = bitOf ((F : Nat) : Int) 2 ∧ bitOf (bits .andNot .i64 ((F : Nat) : Int) 16) 4 = bitOf ((F : Nat) : Int) 4 ∧
  bitOf (bits .andNot .i64 ((F : Nat) : Int) 16) 8 = bitOf ((F : Nat) : Int) 8 ∧ bitOf (bits .andNot .i64 ((F : Nat) : Int) 16) 16 = false ∧ bitOf (bits .andNot .i64 ((F : Nat) : Int) 16) 32 = bitOf ((F : Nat) : Int) 32 := by decide +kernel
theorem namesF_all (f : Int) : namesF f 6 = namesD f false := by
  unfold namesF namesD
  simp only [List.take_succ_cons, List.take_zero, List.flatMap_cons, List.flatMap_nil, List.append_nil, Bool.not_false, Bool.and_true, List.append_assoc]
theorem namesF_no {f : Int} (h : bitOf f 16 = false) : namesF f 6 = namesD f true := by
  unfold namesF namesD
  simp only [List.take_succ_cons, List.take_zero, List.flatMap_cons, List.flatMap_nil, List.append_nil, List.append_assoc, h, Bool.false_and]
theorem namesF_clr {f : Int} (h0 : 0 ≤ f) (h1 : f ≤ 63) : namesF (bits .andNot .i64 f 16) 6 = namesD f true := by
  obtain ⟨F, rfl⟩ := Int.eq_ofNat_of_zero_le h0
  obtain ⟨_, e0, e1, e2, e3, e4, e5⟩ := clr_16 F (by omega)
  unfold namesF namesD
  simp only [List.take_succ_cons, List.take_zero, List.flatMap_cons, List.flatMap_nil, List.append_nil, List.append_assoc, e0, e1, e2, e3, e4, e5, Bool.not_true, Bool.and_false]
theorem clr_range {f : Int} (h0 : 0 ≤ f) (h1 : f ≤ 63) : 0 ≤ bits .andNot .i64 f 16 ∧ bits .andNot .i64 f 16 ≤ 63 := by
  obtain ⟨F, rfl⟩ := Int.eq_ofNat_of_zero_le h0
  exact (clr_16 F (by omega)).1
def pairD (t : Ty) : List Dat := if t.pair = 1 then [rowD nPair (toldL t.pairs)] else if t.pair = 2 then (if bitOf t.flat 16 then [rowD nList (toldL t.pairs)] else [rowD nList1 (toldL t.pairs)]) else []
def funD (t : Ty) : List Dat := if t.fn = 1 then [rowD nArrow (toldL t.funs)] else if t.fn = 2 then [symD nProc] else []
theorem bits_F {f : Int} (h0 : 0 ≤ f) (h1 : f ≤ 63) : ∀ j, j < 6 → (bits .and .i64 f ((2 ^ j : Nat) : Int) != 0) = bitOf f ((2 ^ j : Nat) : Int) := by
  obtain ⟨F, rfl⟩ := Int.eq_ofNat_of_zero_le h0
  exact and_bit F (by omega)
theorem namesF_succ (f : Int) : ∀ j, j < 6 → namesF f (j + 1) = namesF f j ++ (if bitOf f ((2 ^ j : Nat) : Int) then [symD ([nInt, nBool, nStr, nSym, nNull, nVoid].getD j [])] else []) := by
  intro j hj
  have h : j = 0 ∨ j = 1 ∨ j = 2 ∨ j = 3 ∨ j = 4 ∨ j = 5 := by omega
  rcases h with rfl | rfl | rfl | rfl | rfl | rfl <;> (unfold namesF; simp only [List.take_succ_cons, List.take_zero, List.flatMap_cons, List.flatMap_nil, List.append_nil, List.nil_append, List.append_assoc]; rfl)

theorem namesF_le (f : Int) : ∀ j, j ≤ 6 → (namesF f j).length ≤ j := by
  intro j
  induction j with
  | zero => intro _; exact Nat.le_refl _
  | succ j ih =>
    intro h
    have := ih (by omega)
    rw [namesF_succ f j (by omega), List.length_append]
    split <;> simp <;> omega
set_option maxRecDepth 100000 in
set_option maxHeartbeats 64000000 in
theorem parts_p (n : Nat) (ih : SpOK n) (N : Nat → Prop) (x : Ty) (vx : Value) (w : World) (hN : ∀ b, N b → b < w.heap.size) (hx : TyVN N w vx x) (okx : okTy x) (hn : ∀ d, d ∈ x.pairs ∨ d ∈ x.funs → szT d ≤ n) (hFN : FN w) :
    Calls Tryd.prog 59 #[vx] w fun e w' => (∃ v, e = .returned v ∧ SliceOf w' (Lo N w') v (namesD x.flat (x.pair == 2) ++ pairD x ++ funD x)) ∧ Below w.heap.size w w' := by
  obtain ⟨i0, hi, hz0, hz1, hz2⟩ := info_parts Tryd.infoDat
  have px := ok_pairs okx.hd
  have pf := ok_funs okx.hd
  have hh := headP okx
  obtain ⟨xpa, xpc, xfa, xfc, rfl, xhp, xhf⟩ := hx.form
  obtain ⟨xnp, xhnp⟩ : ∃ n, n = x.pairs.length := ⟨_, rfl⟩
  obtain ⟨xnf, xhnf⟩ : ∃ n, n = x.funs.length := ⟨_, rfl⟩
  obtain ⟨xa, xha⟩ : ∃ a, a = x.all := ⟨_, rfl⟩
  obtain ⟨xf, xhf'⟩ : ∃ a, a = x.flat := ⟨_, rfl⟩
  obtain ⟨xp, xhp'⟩ : ∃ a, a = x.pair := ⟨_, rfl⟩
  obtain ⟨xn, xhn⟩ : ∃ a, a = x.fn := ⟨_, rfl⟩
  have CP : ∀ (s : ByteArray) (w1 : World), s.size ≤ 1000 → Below w.heap.size w w1 → ∀ M : Nat → Prop, (∀ b, M b → b < w1.heap.size) → (∀ b, M b → N b ∨ w.heap.size ≤ b) → Calls Tryd.prog 74 #[.string s, .slice xpa x.pairs.length xpc] w1 fun e w' => (∃ u, e = .returned u ∧ DatVN M w' u (.mk 5 ⟨#[]⟩ (.mk 1 s [] :: toldL x.pairs))) ∧ Below w1.heap.size w1 w' := fun s w1 hs hb M hM hMN =>
    form_p n ih M s x.pairs _ _ w1 hs (hFN.below hb) hM (TySN.later xhp hb hMN) (by omega) fun d hd => ⟨okx.pair hd, hn d (.inl hd)⟩
  have CF : ∀ (s : ByteArray) (w1 : World), s.size ≤ 1000 → Below w.heap.size w w1 → ∀ M : Nat → Prop, (∀ b, M b → b < w1.heap.size) → (∀ b, M b → N b ∨ w.heap.size ≤ b) → Calls Tryd.prog 74 #[.string s, .slice xfa x.funs.length xfc] w1 fun e w' => (∃ u, e = .returned u ∧ DatVN M w' u (.mk 5 ⟨#[]⟩ (.mk 1 s [] :: toldL x.funs))) ∧ Below w1.heap.size w1 w' := fun s w1 hs hb M hM hMN =>
    form_p n ih M s x.funs _ _ w1 hs (hFN.below hb) hM (TySN.later xhf hb hMN) (by omega) fun d hd => ⟨okx.fun hd, hn d (.inr hd)⟩
  have hpd : pairD x = if x.pair = 1 then [rowD nPair (toldL x.pairs)] else if x.pair = 2 then (if bitOf x.flat 16 then [rowD nList (toldL x.pairs)] else [rowD nList1 (toldL x.pairs)]) else [] := rfl
  have hfd : funD x = if x.fn = 1 then [rowD nArrow (toldL x.funs)] else if x.fn = 2 then [symD nProc] else [] := rfl
  generalize pairD x = PD at hpd ⊢
  obtain ⟨ND, hnd⟩ : ∃ l, l = namesD x.flat (x.pair == 2) := ⟨_, rfl⟩
  rw [← hnd]
  rw [← xhf', ← xhp'] at hnd
  have HND := Lib.hid hnd
  clear hnd
  generalize funD x = FD at hfd ⊢
  generalize toldL x.pairs = TP at CP hpd
  generalize toldL x.funs = TF at CF hfd
  rw [← xhp', ← xhf'] at hh hpd
  rw [← xhn] at hfd
  rw [← xhnp] at CP
  rw [← xhnf] at CF
  rw [← xhp', ← xhnp] at px
  rw [← xhn, ← xhnf] at pf
  rw [← xhnp, ← xhnf, ← xha, ← xhf', ← xhp', ← xhn]
  obtain ⟨g, hg⟩ : ∃ g, g = w.heap.size := ⟨_, rfl⟩
  obtain ⟨W, hW⟩ : ∃ W, W = w.alloc (.cells #[.bool xa, .int .i64 xf, .int .i64 xp, (.slice xpa xnp xpc), .int .i64 xn, (.slice xfa xnf xfc)] 24) := ⟨_, rfl⟩
  have HBW := Lib.hid (show Below w.heap.size w W by rw [hW]; exact (Below.refl _ _).alloc (Nat.le_refl _) _)
  have HBX := Lib.hid (show BoxAt W g xa xf xp (.slice xpa xnp xpc) xn (.slice xfa xnf xfc) by rw [hW, hg]; exact BoxAt.made _ _ _ _ _ _ _)
  have HFN := Lib.hid (hFN.below HBW.out)
  have hf0 : 0 ≤ xf ∧ xf ≤ 63 := ⟨hh.1, hh.2.1⟩
  have HF0 := Lib.hid hf0
  have HPD := Lib.hid hpd
  have HFD := Lib.hid hfd
  have HCP := Lib.hid CP
  have HCF := Lib.hid CF
  have HG := Lib.hid hg
  have HGS := Lib.hid (show g ≤ w.heap.size ∧ g + 1 ≤ W.heap.size from ⟨by omega, HBX.out.lt⟩)
  have HW := Lib.hid hW
  have HN := Lib.hid hN
  have CW := fun s (hs : s.size ≤ 100000) w => word_p s hs w
  have HCW := Lib.hid CW
  clear CW CP CF hpd hfd hh hf0 hW hg hN hx okx hn hFN ih xhp xhf xhnp xhnf xha xhf' xhp' xhn
  rcases px with ⟨rfl, rfl⟩ | px
  · have HPD' := Lib.hid (show PD = [] by rw [HPD.out]; rfl)
    have HPF := Lib.hid pf
    clear pf
    have HBITS := Lib.hid (bits_F HF0.out.1 HF0.out.2)
    have HLE := Lib.hid (namesF_le xf)
    have HNF := Lib.hid (show namesF xf 6 = ND by rw [HND.out]; exact namesF_all xf)
    have hb0 := HBX.out.c0
    have x1 := HBX.out.c1
    have x2 := HBX.out.c2
    have x3 := HBX.out.c3
    have x4 := HBX.out.c4
    have x5 := HBX.out.c5
    have v0 := HFN.out.2.1
    have v1 := HFN.out.2.2.1
    have v2 := HFN.out.2.2.2.1
    have v3 := HFN.out.2.2.2.2.1
    have v4 := HFN.out.2.2.2.2.2.1
    have v5 := HFN.out.2.2.2.2.2.2
    clear hb0
    go_enter Tryd.func59, Tryd.ntmps59
    go_wp2_with fail
    rw [← HG.out, ← HW.out]
    go_quiet (fail)
    go_wp2
    obtain ⟨W2, hW2⟩ : ∃ W2, W2 = W.drewN nq := ⟨_, rfl⟩
    have HB2 := Lib.hid (show Below W.heap.size W W2 by rw [hW2]; exact below_drewN (Below.refl _ _) _)
    rw [← hW2]
    clear hW2
    clear v0 v1 v2 v3 v4 v5 x1 x2 x3 x4 x5
    try clear h16
    go_loopw [5, 6, 7, 26] (fun v _ _ i wr => ∃ (j : Nat) (L : List Dat) (a : Option Addr) (c : Nat), j ≤ 6 ∧ i = .int .i64 j ∧ v = .slice a L.length c ∧ Hid (L = namesF xf j) ∧ Hid (RowAt N (g + 1) wr (.slice a L.length c) L) ∧ Hid (Below w.heap.size w wr) ∧ Hid (BoxAt wr g xa xf 0 (.slice xpa 0 xpc) xn (.slice xfa xnf xfc))) (fun _ _ _ i _ => 6 - (intOf i).toNat)
    case atStart => exact ⟨0, [], none, 0, Nat.zero_le _, rfl, rfl, Lib.hid rfl, Lib.hid RowAt.nil, Lib.hid (HBW.out.trans (HB2.out.mono HBW.out.size)), Lib.hid (HBX.out.keep HB2.out)⟩
    case round =>
      obtain ⟨j, L, a, c, hj, rfl, rfl, HE, HROW, HB, HX⟩ := hrel
      by_cases hgo : j < 6
      · have HE2 := Lib.hid (namesF_succ xf j hgo)
        rw [← HE.out] at HE2
        have HBT := Lib.hid (HBITS.out j hgo)
        have hLl : L.length ≤ 6 := by have := HLE.out j (by omega); rw [← HE.out] at this; omega
        obtain ⟨nL, hnL⟩ : ∃ n, n = L.length := ⟨_, rfl⟩
        rw [← hnL] at hLl HROW ⊢
        have HLL := Lib.hid hnL
        rw [hnL] at HROW
        clear hnL HE
        have hjc : j = 0 ∨ j = 1 ∨ j = 2 ∨ j = 3 ∨ j = 4 ∨ j = 5 := by omega
        clear hgo hj
        rcases hjc with rfl | rfl | rfl | rfl | rfl | rfl
        · have hbt : (bits .and .i64 xf 1 != 0) = bitOf xf 1 := HBT.out
          have hix := ix0
          cases hz : bitOf xf 1 with
          | false =>
            rw [hz] at hbt
            have HE3 := Lib.hid (show L = namesF xf 1 by rw [HE2.out]; show _ = L ++ (if bitOf xf 1 then _ else _); rw [hz]; simp)
            clear hz
            go_wp2
            refine ⟨⟨1, L, a, c, by omega, by go_num, by rw [HLL.out], HE3, ?_, HB, HX⟩, ?_⟩
            · exact HROW
            · simp [intOf]
          | true =>
            rw [hz] at hbt
            have HE3 := Lib.hid (show L ++ [symD nInt] = namesF xf 1 by rw [HE2.out]; show _ = L ++ (if bitOf xf 1 then _ else _); rw [hz]; rfl)
            clear hz
            go_wp2_with fail
            refine (HCW.out ⟨nInt.toArray⟩ (by decide) wr).mono ?_
            rintro e w4 ⟨rfl, hb4⟩
            have HROW4 := Lib.hid (HROW.out.below hb4)
            have HB4 := Lib.hid (HB.out.trans (hb4.mono HB.out.size))
            have HX4 := Lib.hid (HX.out.keep hb4)
            have HD4 := Lib.hid (show DatVN (fun b => N b ∨ (Value.slice a nL c).ownBlock = some b) w4 (.agg #[.int .i64 1, .string ⟨nInt.toArray⟩, .slice none 0 0]) (symD nInt) from DatVN.mk (.mkNil _ _))
            clear hb4
            obtain ⟨rsq, hownq, hrawq⟩ := HROW4.out
            have hdrq := HD4.out.raw
            (try rw [← HLL.out] at hownq)
            (try rw [← HLL.out] at hrawq)
            have HDRq := Lib.hid hdrq
            have HRAWq := Lib.hid hrawq
            have HOWNq := Lib.hid (hownq.alloc (.cells #[.int .i64 1, .string ⟨nInt.toArray⟩, .slice none 0 0] 39))
            have hbaseq : g + 1 ≤ w4.heap.size := HX4.out.lt
            have HBASEq := Lib.hid hbaseq
            clear hownq hrawq hdrq hbaseq
            go_wp2_with (at_builtin; refine wpList_append_lies _ rfl _ _ 37 rfl (g + 1) 39 i0 (.agg #[.int .i64 0, .string ⟨#[]⟩, .slice none 0 0]) 3 48 Tryd.underlying37 hi hz0 hz1 hz2 rfl (by decide) _ nL (dsCells rsq) rfl HOWNq.out ⟨w4.heap.size, 0, none⟩ 1 1 (dCells ⟨1, ⟨nInt.toArray⟩, .slice none 0 0⟩) rfl rfl (World.news_of_block (heap_alloc_new w4 _)) ?_ (by omega) ?_ ?_ ?_ (w4.heap.size + 1) (alloc_hs _ _) ?_)
            · intro x hx; simp only [dCells, List.mem_cons, List.not_mem_nil, or_false] at hx; rcases hx with rfl | rfl | rfl <;> rfl
            · unfold maxLen; omega
            · omega
            · rw [alloc_hs]; have := HBASEq.out; omega
            intro ggq capq w5q hown5 hgrow5 hlies5 hlt5
            have HROWq := Lib.hid (show RowAt N (g + 1) w5q (.slice (some ⟨ggq, 0, none⟩) (nL + 1) capq) (L ++ [(symD nInt)]) by
              have h2 : DawOf w4 (fun b => Lo N w4 b ∧ (Value.slice a nL c).ownBlock ≠ some b) ⟨1, ⟨nInt.toArray⟩, .slice none 0 0⟩ (symD nInt) := HDRq.out.mono (fun b h => ⟨⟨h.1, fun e => h.2 (.inl e)⟩, fun e => h.2 (.inr e)⟩) fun _ _ _ => rfl
              have h1 := HRAWq.out
              have hn := HLL.out
              (try rw [hn] at h1)
              (try rw [hn] at h2)
              (try rw [hn] at hown5)
              (try rw [hn] at hgrow5)
              (try rw [hn] at hlies5)
              (try rw [hn])
              exact rowat_push h1 h2 hgrow5 hlies5 hown5)
            have hown4 := HOWNq.out
            have hge : ∀ k, (Value.slice a nL c).ownBlock = some k → g + 1 ≤ k := fun k hk => (hown4.lt k hk).1
            have HXq := Lib.hid (show BoxAt w5q g xa xf 0 (.slice xpa 0 xpc) xn (.slice xfa xnf xfc) from (hgrow5.block g (by rw [alloc_hs]; have := HX4.out.lt; omega) (fun e => by have := hge g e.symm; omega)).trans ((Below.heap_alloc _ _ _ HX4.out.lt).trans HX4.out))
            have HBq := Lib.hid (show Below w.heap.size w w5q from (HB4.out.alloc HB4.out.size _).grown hgrow5 (by rw [alloc_hs]; have := HB4.out.size; omega) fun k hk => by have := hge k hk; have := HG.out; omega)
            clear hge hown4 hown5 hgrow5 hlies5 hlt5
            go_wp2
            refine ⟨⟨1, L ++ [symD nInt], some ⟨ggq, 0, none⟩, capq, by omega, by go_num, ?_, HE3, ?_, HBq, HXq⟩, ?_⟩
            · rw [List.length_append, List.length_cons, List.length_nil, ← HLL.out]
            · rw [List.length_append, List.length_cons, List.length_nil, ← HLL.out]; exact HROWq
            · simp [intOf]
        · have hbt : (bits .and .i64 xf 2 != 0) = bitOf xf 2 := HBT.out
          have hix := ix1
          cases hz : bitOf xf 2 with
          | false =>
            rw [hz] at hbt
            have HE3 := Lib.hid (show L = namesF xf 2 by rw [HE2.out]; show _ = L ++ (if bitOf xf 2 then _ else _); rw [hz]; simp)
            clear hz
            go_wp2
            refine ⟨⟨2, L, a, c, by omega, by go_num, by rw [HLL.out], HE3, ?_, HB, HX⟩, ?_⟩
            · exact HROW
            · simp [intOf]
          | true =>
            rw [hz] at hbt
            have HE3 := Lib.hid (show L ++ [symD nBool] = namesF xf 2 by rw [HE2.out]; show _ = L ++ (if bitOf xf 2 then _ else _); rw [hz]; rfl)
            clear hz
            go_wp2_with fail
            refine (HCW.out ⟨nBool.toArray⟩ (by decide) wr).mono ?_
            rintro e w4 ⟨rfl, hb4⟩
            have HROW4 := Lib.hid (HROW.out.below hb4)
            have HB4 := Lib.hid (HB.out.trans (hb4.mono HB.out.size))
            have HX4 := Lib.hid (HX.out.keep hb4)
            have HD4 := Lib.hid (show DatVN (fun b => N b ∨ (Value.slice a nL c).ownBlock = some b) w4 (.agg #[.int .i64 1, .string ⟨nBool.toArray⟩, .slice none 0 0]) (symD nBool) from DatVN.mk (.mkNil _ _))
            clear hb4
            obtain ⟨rsq, hownq, hrawq⟩ := HROW4.out
            have hdrq := HD4.out.raw
            (try rw [← HLL.out] at hownq)
            (try rw [← HLL.out] at hrawq)
            have HDRq := Lib.hid hdrq
            have HRAWq := Lib.hid hrawq
            have HOWNq := Lib.hid (hownq.alloc (.cells #[.int .i64 1, .string ⟨nBool.toArray⟩, .slice none 0 0] 39))
            have hbaseq : g + 1 ≤ w4.heap.size := HX4.out.lt
            have HBASEq := Lib.hid hbaseq
            clear hownq hrawq hdrq hbaseq
            go_wp2_with (at_builtin; refine wpList_append_lies _ rfl _ _ 37 rfl (g + 1) 39 i0 (.agg #[.int .i64 0, .string ⟨#[]⟩, .slice none 0 0]) 3 48 Tryd.underlying37 hi hz0 hz1 hz2 rfl (by decide) _ nL (dsCells rsq) rfl HOWNq.out ⟨w4.heap.size, 0, none⟩ 1 1 (dCells ⟨1, ⟨nBool.toArray⟩, .slice none 0 0⟩) rfl rfl (World.news_of_block (heap_alloc_new w4 _)) ?_ (by omega) ?_ ?_ ?_ (w4.heap.size + 1) (alloc_hs _ _) ?_)
            · intro x hx; simp only [dCells, List.mem_cons, List.not_mem_nil, or_false] at hx; rcases hx with rfl | rfl | rfl <;> rfl
            · unfold maxLen; omega
            · omega
            · rw [alloc_hs]; have := HBASEq.out; omega
            intro ggq capq w5q hown5 hgrow5 hlies5 hlt5
            have HROWq := Lib.hid (show RowAt N (g + 1) w5q (.slice (some ⟨ggq, 0, none⟩) (nL + 1) capq) (L ++ [(symD nBool)]) by
              have h2 : DawOf w4 (fun b => Lo N w4 b ∧ (Value.slice a nL c).ownBlock ≠ some b) ⟨1, ⟨nBool.toArray⟩, .slice none 0 0⟩ (symD nBool) := HDRq.out.mono (fun b h => ⟨⟨h.1, fun e => h.2 (.inl e)⟩, fun e => h.2 (.inr e)⟩) fun _ _ _ => rfl
              have h1 := HRAWq.out
              have hn := HLL.out
              (try rw [hn] at h1)
              (try rw [hn] at h2)
              (try rw [hn] at hown5)
              (try rw [hn] at hgrow5)
              (try rw [hn] at hlies5)
              (try rw [hn])
              exact rowat_push h1 h2 hgrow5 hlies5 hown5)
            have hown4 := HOWNq.out
            have hge : ∀ k, (Value.slice a nL c).ownBlock = some k → g + 1 ≤ k := fun k hk => (hown4.lt k hk).1
            have HXq := Lib.hid (show BoxAt w5q g xa xf 0 (.slice xpa 0 xpc) xn (.slice xfa xnf xfc) from (hgrow5.block g (by rw [alloc_hs]; have := HX4.out.lt; omega) (fun e => by have := hge g e.symm; omega)).trans ((Below.heap_alloc _ _ _ HX4.out.lt).trans HX4.out))
            have HBq := Lib.hid (show Below w.heap.size w w5q from (HB4.out.alloc HB4.out.size _).grown hgrow5 (by rw [alloc_hs]; have := HB4.out.size; omega) fun k hk => by have := hge k hk; have := HG.out; omega)
            clear hge hown4 hown5 hgrow5 hlies5 hlt5
            go_wp2
            refine ⟨⟨2, L ++ [symD nBool], some ⟨ggq, 0, none⟩, capq, by omega, by go_num, ?_, HE3, ?_, HBq, HXq⟩, ?_⟩
            · rw [List.length_append, List.length_cons, List.length_nil, ← HLL.out]
            · rw [List.length_append, List.length_cons, List.length_nil, ← HLL.out]; exact HROWq
            · simp [intOf]
        · have hbt : (bits .and .i64 xf 4 != 0) = bitOf xf 4 := HBT.out
          have hix := ix2
          cases hz : bitOf xf 4 with
          | false =>
            rw [hz] at hbt
            have HE3 := Lib.hid (show L = namesF xf 3 by rw [HE2.out]; show _ = L ++ (if bitOf xf 4 then _ else _); rw [hz]; simp)
            clear hz
            go_wp2
            refine ⟨⟨3, L, a, c, by omega, by go_num, by rw [HLL.out], HE3, ?_, HB, HX⟩, ?_⟩
            · exact HROW
            · simp [intOf]
          | true =>
            rw [hz] at hbt
            have HE3 := Lib.hid (show L ++ [symD nStr] = namesF xf 3 by rw [HE2.out]; show _ = L ++ (if bitOf xf 4 then _ else _); rw [hz]; rfl)
            clear hz
            go_wp2_with fail
            refine (HCW.out ⟨nStr.toArray⟩ (by decide) wr).mono ?_
            rintro e w4 ⟨rfl, hb4⟩
            have HROW4 := Lib.hid (HROW.out.below hb4)
            have HB4 := Lib.hid (HB.out.trans (hb4.mono HB.out.size))
            have HX4 := Lib.hid (HX.out.keep hb4)
            have HD4 := Lib.hid (show DatVN (fun b => N b ∨ (Value.slice a nL c).ownBlock = some b) w4 (.agg #[.int .i64 1, .string ⟨nStr.toArray⟩, .slice none 0 0]) (symD nStr) from DatVN.mk (.mkNil _ _))
            clear hb4
            obtain ⟨rsq, hownq, hrawq⟩ := HROW4.out
            have hdrq := HD4.out.raw
            (try rw [← HLL.out] at hownq)
            (try rw [← HLL.out] at hrawq)
            have HDRq := Lib.hid hdrq
            have HRAWq := Lib.hid hrawq
            have HOWNq := Lib.hid (hownq.alloc (.cells #[.int .i64 1, .string ⟨nStr.toArray⟩, .slice none 0 0] 39))
            have hbaseq : g + 1 ≤ w4.heap.size := HX4.out.lt
            have HBASEq := Lib.hid hbaseq
            clear hownq hrawq hdrq hbaseq
            go_wp2_with (at_builtin; refine wpList_append_lies _ rfl _ _ 37 rfl (g + 1) 39 i0 (.agg #[.int .i64 0, .string ⟨#[]⟩, .slice none 0 0]) 3 48 Tryd.underlying37 hi hz0 hz1 hz2 rfl (by decide) _ nL (dsCells rsq) rfl HOWNq.out ⟨w4.heap.size, 0, none⟩ 1 1 (dCells ⟨1, ⟨nStr.toArray⟩, .slice none 0 0⟩) rfl rfl (World.news_of_block (heap_alloc_new w4 _)) ?_ (by omega) ?_ ?_ ?_ (w4.heap.size + 1) (alloc_hs _ _) ?_)
            · intro x hx; simp only [dCells, List.mem_cons, List.not_mem_nil, or_false] at hx; rcases hx with rfl | rfl | rfl <;> rfl
            · unfold maxLen; omega
            · omega
            · rw [alloc_hs]; have := HBASEq.out; omega
            intro ggq capq w5q hown5 hgrow5 hlies5 hlt5
            have HROWq := Lib.hid (show RowAt N (g + 1) w5q (.slice (some ⟨ggq, 0, none⟩) (nL + 1) capq) (L ++ [(symD nStr)]) by
              have h2 : DawOf w4 (fun b => Lo N w4 b ∧ (Value.slice a nL c).ownBlock ≠ some b) ⟨1, ⟨nStr.toArray⟩, .slice none 0 0⟩ (symD nStr) := HDRq.out.mono (fun b h => ⟨⟨h.1, fun e => h.2 (.inl e)⟩, fun e => h.2 (.inr e)⟩) fun _ _ _ => rfl
              have h1 := HRAWq.out
              have hn := HLL.out
              (try rw [hn] at h1)
              (try rw [hn] at h2)
              (try rw [hn] at hown5)
              (try rw [hn] at hgrow5)
              (try rw [hn] at hlies5)
              (try rw [hn])
              exact rowat_push h1 h2 hgrow5 hlies5 hown5)
            have hown4 := HOWNq.out
            have hge : ∀ k, (Value.slice a nL c).ownBlock = some k → g + 1 ≤ k := fun k hk => (hown4.lt k hk).1
            have HXq := Lib.hid (show BoxAt w5q g xa xf 0 (.slice xpa 0 xpc) xn (.slice xfa xnf xfc) from (hgrow5.block g (by rw [alloc_hs]; have := HX4.out.lt; omega) (fun e => by have := hge g e.symm; omega)).trans ((Below.heap_alloc _ _ _ HX4.out.lt).trans HX4.out))
            have HBq := Lib.hid (show Below w.heap.size w w5q from (HB4.out.alloc HB4.out.size _).grown hgrow5 (by rw [alloc_hs]; have := HB4.out.size; omega) fun k hk => by have := hge k hk; have := HG.out; omega)
            clear hge hown4 hown5 hgrow5 hlies5 hlt5
            go_wp2
            refine ⟨⟨3, L ++ [symD nStr], some ⟨ggq, 0, none⟩, capq, by omega, by go_num, ?_, HE3, ?_, HBq, HXq⟩, ?_⟩
            · rw [List.length_append, List.length_cons, List.length_nil, ← HLL.out]
            · rw [List.length_append, List.length_cons, List.length_nil, ← HLL.out]; exact HROWq
            · simp [intOf]
        · have hbt : (bits .and .i64 xf 8 != 0) = bitOf xf 8 := HBT.out
          have hix := ix3
          cases hz : bitOf xf 8 with
          | false =>
            rw [hz] at hbt
            have HE3 := Lib.hid (show L = namesF xf 4 by rw [HE2.out]; show _ = L ++ (if bitOf xf 8 then _ else _); rw [hz]; simp)
            clear hz
            go_wp2
            refine ⟨⟨4, L, a, c, by omega, by go_num, by rw [HLL.out], HE3, ?_, HB, HX⟩, ?_⟩
            · exact HROW
            · simp [intOf]
          | true =>
            rw [hz] at hbt
            have HE3 := Lib.hid (show L ++ [symD nSym] = namesF xf 4 by rw [HE2.out]; show _ = L ++ (if bitOf xf 8 then _ else _); rw [hz]; rfl)
            clear hz
            go_wp2_with fail
            refine (HCW.out ⟨nSym.toArray⟩ (by decide) wr).mono ?_
            rintro e w4 ⟨rfl, hb4⟩
            have HROW4 := Lib.hid (HROW.out.below hb4)
            have HB4 := Lib.hid (HB.out.trans (hb4.mono HB.out.size))
            have HX4 := Lib.hid (HX.out.keep hb4)
            have HD4 := Lib.hid (show DatVN (fun b => N b ∨ (Value.slice a nL c).ownBlock = some b) w4 (.agg #[.int .i64 1, .string ⟨nSym.toArray⟩, .slice none 0 0]) (symD nSym) from DatVN.mk (.mkNil _ _))
            clear hb4
            obtain ⟨rsq, hownq, hrawq⟩ := HROW4.out
            have hdrq := HD4.out.raw
            (try rw [← HLL.out] at hownq)
            (try rw [← HLL.out] at hrawq)
            have HDRq := Lib.hid hdrq
            have HRAWq := Lib.hid hrawq
            have HOWNq := Lib.hid (hownq.alloc (.cells #[.int .i64 1, .string ⟨nSym.toArray⟩, .slice none 0 0] 39))
            have hbaseq : g + 1 ≤ w4.heap.size := HX4.out.lt
            have HBASEq := Lib.hid hbaseq
            clear hownq hrawq hdrq hbaseq
            go_wp2_with (at_builtin; refine wpList_append_lies _ rfl _ _ 37 rfl (g + 1) 39 i0 (.agg #[.int .i64 0, .string ⟨#[]⟩, .slice none 0 0]) 3 48 Tryd.underlying37 hi hz0 hz1 hz2 rfl (by decide) _ nL (dsCells rsq) rfl HOWNq.out ⟨w4.heap.size, 0, none⟩ 1 1 (dCells ⟨1, ⟨nSym.toArray⟩, .slice none 0 0⟩) rfl rfl (World.news_of_block (heap_alloc_new w4 _)) ?_ (by omega) ?_ ?_ ?_ (w4.heap.size + 1) (alloc_hs _ _) ?_)
            · intro x hx; simp only [dCells, List.mem_cons, List.not_mem_nil, or_false] at hx; rcases hx with rfl | rfl | rfl <;> rfl
            · unfold maxLen; omega
            · omega
            · rw [alloc_hs]; have := HBASEq.out; omega
            intro ggq capq w5q hown5 hgrow5 hlies5 hlt5
            have HROWq := Lib.hid (show RowAt N (g + 1) w5q (.slice (some ⟨ggq, 0, none⟩) (nL + 1) capq) (L ++ [(symD nSym)]) by
              have h2 : DawOf w4 (fun b => Lo N w4 b ∧ (Value.slice a nL c).ownBlock ≠ some b) ⟨1, ⟨nSym.toArray⟩, .slice none 0 0⟩ (symD nSym) := HDRq.out.mono (fun b h => ⟨⟨h.1, fun e => h.2 (.inl e)⟩, fun e => h.2 (.inr e)⟩) fun _ _ _ => rfl
              have h1 := HRAWq.out
              have hn := HLL.out
              (try rw [hn] at h1)
              (try rw [hn] at h2)
              (try rw [hn] at hown5)
              (try rw [hn] at hgrow5)
              (try rw [hn] at hlies5)
              (try rw [hn])
              exact rowat_push h1 h2 hgrow5 hlies5 hown5)
            have hown4 := HOWNq.out
            have hge : ∀ k, (Value.slice a nL c).ownBlock = some k → g + 1 ≤ k := fun k hk => (hown4.lt k hk).1
            have HXq := Lib.hid (show BoxAt w5q g xa xf 0 (.slice xpa 0 xpc) xn (.slice xfa xnf xfc) from (hgrow5.block g (by rw [alloc_hs]; have := HX4.out.lt; omega) (fun e => by have := hge g e.symm; omega)).trans ((Below.heap_alloc _ _ _ HX4.out.lt).trans HX4.out))
            have HBq := Lib.hid (show Below w.heap.size w w5q from (HB4.out.alloc HB4.out.size _).grown hgrow5 (by rw [alloc_hs]; have := HB4.out.size; omega) fun k hk => by have := hge k hk; have := HG.out; omega)
            clear hge hown4 hown5 hgrow5 hlies5 hlt5
            go_wp2
            refine ⟨⟨4, L ++ [symD nSym], some ⟨ggq, 0, none⟩, capq, by omega, by go_num, ?_, HE3, ?_, HBq, HXq⟩, ?_⟩
            · rw [List.length_append, List.length_cons, List.length_nil, ← HLL.out]
            · rw [List.length_append, List.length_cons, List.length_nil, ← HLL.out]; exact HROWq
            · simp [intOf]
        · have hbt : (bits .and .i64 xf 16 != 0) = bitOf xf 16 := HBT.out
          have hix := ix4
          cases hz : bitOf xf 16 with
          | false =>
            rw [hz] at hbt
            have HE3 := Lib.hid (show L = namesF xf 5 by rw [HE2.out]; show _ = L ++ (if bitOf xf 16 then _ else _); rw [hz]; simp)
            clear hz
            go_wp2
            refine ⟨⟨5, L, a, c, by omega, by go_num, by rw [HLL.out], HE3, ?_, HB, HX⟩, ?_⟩
            · exact HROW
            · simp [intOf]
          | true =>
            rw [hz] at hbt
            have HE3 := Lib.hid (show L ++ [symD nNull] = namesF xf 5 by rw [HE2.out]; show _ = L ++ (if bitOf xf 16 then _ else _); rw [hz]; rfl)
            clear hz
            go_wp2_with fail
            refine (HCW.out ⟨nNull.toArray⟩ (by decide) wr).mono ?_
            rintro e w4 ⟨rfl, hb4⟩
            have HROW4 := Lib.hid (HROW.out.below hb4)
            have HB4 := Lib.hid (HB.out.trans (hb4.mono HB.out.size))
            have HX4 := Lib.hid (HX.out.keep hb4)
            have HD4 := Lib.hid (show DatVN (fun b => N b ∨ (Value.slice a nL c).ownBlock = some b) w4 (.agg #[.int .i64 1, .string ⟨nNull.toArray⟩, .slice none 0 0]) (symD nNull) from DatVN.mk (.mkNil _ _))
            clear hb4
            obtain ⟨rsq, hownq, hrawq⟩ := HROW4.out
            have hdrq := HD4.out.raw
            (try rw [← HLL.out] at hownq)
            (try rw [← HLL.out] at hrawq)
            have HDRq := Lib.hid hdrq
            have HRAWq := Lib.hid hrawq
            have HOWNq := Lib.hid (hownq.alloc (.cells #[.int .i64 1, .string ⟨nNull.toArray⟩, .slice none 0 0] 39))
            have hbaseq : g + 1 ≤ w4.heap.size := HX4.out.lt
            have HBASEq := Lib.hid hbaseq
            clear hownq hrawq hdrq hbaseq
            go_wp2_with (at_builtin; refine wpList_append_lies _ rfl _ _ 37 rfl (g + 1) 39 i0 (.agg #[.int .i64 0, .string ⟨#[]⟩, .slice none 0 0]) 3 48 Tryd.underlying37 hi hz0 hz1 hz2 rfl (by decide) _ nL (dsCells rsq) rfl HOWNq.out ⟨w4.heap.size, 0, none⟩ 1 1 (dCells ⟨1, ⟨nNull.toArray⟩, .slice none 0 0⟩) rfl rfl (World.news_of_block (heap_alloc_new w4 _)) ?_ (by omega) ?_ ?_ ?_ (w4.heap.size + 1) (alloc_hs _ _) ?_)
            · intro x hx; simp only [dCells, List.mem_cons, List.not_mem_nil, or_false] at hx; rcases hx with rfl | rfl | rfl <;> rfl
            · unfold maxLen; omega
            · omega
            · rw [alloc_hs]; have := HBASEq.out; omega
            intro ggq capq w5q hown5 hgrow5 hlies5 hlt5
            have HROWq := Lib.hid (show RowAt N (g + 1) w5q (.slice (some ⟨ggq, 0, none⟩) (nL + 1) capq) (L ++ [(symD nNull)]) by
              have h2 : DawOf w4 (fun b => Lo N w4 b ∧ (Value.slice a nL c).ownBlock ≠ some b) ⟨1, ⟨nNull.toArray⟩, .slice none 0 0⟩ (symD nNull) := HDRq.out.mono (fun b h => ⟨⟨h.1, fun e => h.2 (.inl e)⟩, fun e => h.2 (.inr e)⟩) fun _ _ _ => rfl
              have h1 := HRAWq.out
              have hn := HLL.out
              (try rw [hn] at h1)
              (try rw [hn] at h2)
              (try rw [hn] at hown5)
              (try rw [hn] at hgrow5)
              (try rw [hn] at hlies5)
              (try rw [hn])
              exact rowat_push h1 h2 hgrow5 hlies5 hown5)
            have hown4 := HOWNq.out
            have hge : ∀ k, (Value.slice a nL c).ownBlock = some k → g + 1 ≤ k := fun k hk => (hown4.lt k hk).1
            have HXq := Lib.hid (show BoxAt w5q g xa xf 0 (.slice xpa 0 xpc) xn (.slice xfa xnf xfc) from (hgrow5.block g (by rw [alloc_hs]; have := HX4.out.lt; omega) (fun e => by have := hge g e.symm; omega)).trans ((Below.heap_alloc _ _ _ HX4.out.lt).trans HX4.out))
            have HBq := Lib.hid (show Below w.heap.size w w5q from (HB4.out.alloc HB4.out.size _).grown hgrow5 (by rw [alloc_hs]; have := HB4.out.size; omega) fun k hk => by have := hge k hk; have := HG.out; omega)
            clear hge hown4 hown5 hgrow5 hlies5 hlt5
            go_wp2
            refine ⟨⟨5, L ++ [symD nNull], some ⟨ggq, 0, none⟩, capq, by omega, by go_num, ?_, HE3, ?_, HBq, HXq⟩, ?_⟩
            · rw [List.length_append, List.length_cons, List.length_nil, ← HLL.out]
            · rw [List.length_append, List.length_cons, List.length_nil, ← HLL.out]; exact HROWq
            · simp [intOf]
        · have hbt : (bits .and .i64 xf 32 != 0) = bitOf xf 32 := HBT.out
          have hix := ix5
          cases hz : bitOf xf 32 with
          | false =>
            rw [hz] at hbt
            have HE3 := Lib.hid (show L = namesF xf 6 by rw [HE2.out]; show _ = L ++ (if bitOf xf 32 then _ else _); rw [hz]; simp)
            clear hz
            go_wp2
            refine ⟨⟨6, L, a, c, by omega, by go_num, by rw [HLL.out], HE3, ?_, HB, HX⟩, ?_⟩
            · exact HROW
            · simp [intOf]
          | true =>
            rw [hz] at hbt
            have HE3 := Lib.hid (show L ++ [symD nVoid] = namesF xf 6 by rw [HE2.out]; show _ = L ++ (if bitOf xf 32 then _ else _); rw [hz]; rfl)
            clear hz
            go_wp2_with fail
            refine (HCW.out ⟨nVoid.toArray⟩ (by decide) wr).mono ?_
            rintro e w4 ⟨rfl, hb4⟩
            have HROW4 := Lib.hid (HROW.out.below hb4)
            have HB4 := Lib.hid (HB.out.trans (hb4.mono HB.out.size))
            have HX4 := Lib.hid (HX.out.keep hb4)
            have HD4 := Lib.hid (show DatVN (fun b => N b ∨ (Value.slice a nL c).ownBlock = some b) w4 (.agg #[.int .i64 1, .string ⟨nVoid.toArray⟩, .slice none 0 0]) (symD nVoid) from DatVN.mk (.mkNil _ _))
            clear hb4
            obtain ⟨rsq, hownq, hrawq⟩ := HROW4.out
            have hdrq := HD4.out.raw
            (try rw [← HLL.out] at hownq)
            (try rw [← HLL.out] at hrawq)
            have HDRq := Lib.hid hdrq
            have HRAWq := Lib.hid hrawq
            have HOWNq := Lib.hid (hownq.alloc (.cells #[.int .i64 1, .string ⟨nVoid.toArray⟩, .slice none 0 0] 39))
            have hbaseq : g + 1 ≤ w4.heap.size := HX4.out.lt
            have HBASEq := Lib.hid hbaseq
            clear hownq hrawq hdrq hbaseq
            go_wp2_with (at_builtin; refine wpList_append_lies _ rfl _ _ 37 rfl (g + 1) 39 i0 (.agg #[.int .i64 0, .string ⟨#[]⟩, .slice none 0 0]) 3 48 Tryd.underlying37 hi hz0 hz1 hz2 rfl (by decide) _ nL (dsCells rsq) rfl HOWNq.out ⟨w4.heap.size, 0, none⟩ 1 1 (dCells ⟨1, ⟨nVoid.toArray⟩, .slice none 0 0⟩) rfl rfl (World.news_of_block (heap_alloc_new w4 _)) ?_ (by omega) ?_ ?_ ?_ (w4.heap.size + 1) (alloc_hs _ _) ?_)
            · intro x hx; simp only [dCells, List.mem_cons, List.not_mem_nil, or_false] at hx; rcases hx with rfl | rfl | rfl <;> rfl
            · unfold maxLen; omega
            · omega
            · rw [alloc_hs]; have := HBASEq.out; omega
            intro ggq capq w5q hown5 hgrow5 hlies5 hlt5
            have HROWq := Lib.hid (show RowAt N (g + 1) w5q (.slice (some ⟨ggq, 0, none⟩) (nL + 1) capq) (L ++ [(symD nVoid)]) by
              have h2 : DawOf w4 (fun b => Lo N w4 b ∧ (Value.slice a nL c).ownBlock ≠ some b) ⟨1, ⟨nVoid.toArray⟩, .slice none 0 0⟩ (symD nVoid) := HDRq.out.mono (fun b h => ⟨⟨h.1, fun e => h.2 (.inl e)⟩, fun e => h.2 (.inr e)⟩) fun _ _ _ => rfl
              have h1 := HRAWq.out
              have hn := HLL.out
              (try rw [hn] at h1)
              (try rw [hn] at h2)
              (try rw [hn] at hown5)
              (try rw [hn] at hgrow5)
              (try rw [hn] at hlies5)
              (try rw [hn])
              exact rowat_push h1 h2 hgrow5 hlies5 hown5)
            have hown4 := HOWNq.out
            have hge : ∀ k, (Value.slice a nL c).ownBlock = some k → g + 1 ≤ k := fun k hk => (hown4.lt k hk).1
            have HXq := Lib.hid (show BoxAt w5q g xa xf 0 (.slice xpa 0 xpc) xn (.slice xfa xnf xfc) from (hgrow5.block g (by rw [alloc_hs]; have := HX4.out.lt; omega) (fun e => by have := hge g e.symm; omega)).trans ((Below.heap_alloc _ _ _ HX4.out.lt).trans HX4.out))
            have HBq := Lib.hid (show Below w.heap.size w w5q from (HB4.out.alloc HB4.out.size _).grown hgrow5 (by rw [alloc_hs]; have := HB4.out.size; omega) fun k hk => by have := hge k hk; have := HG.out; omega)
            clear hge hown4 hown5 hgrow5 hlies5 hlt5
            go_wp2
            refine ⟨⟨6, L ++ [symD nVoid], some ⟨ggq, 0, none⟩, capq, by omega, by go_num, ?_, HE3, ?_, HBq, HXq⟩, ?_⟩
            · rw [List.length_append, List.length_cons, List.length_nil, ← HLL.out]
            · rw [List.length_append, List.length_cons, List.length_nil, ← HLL.out]; exact HROWq
            · simp [intOf]
      · have hj6 : j = 6 := by omega
        subst hj6
        have hL : L = ND := by rw [HE.out]; exact HNF.out
        have HL := Lib.hid hL
        have hLl : L.length ≤ 6 := by rw [HE.out]; exact HLE.out 6 (by omega)
        obtain ⟨nL, hnL⟩ : ∃ n, n = L.length := ⟨_, rfl⟩
        have HLL := Lib.hid hnL
        rw [← hnL] at hLl ⊢
        clear hnL hL hgo hj HE
        have z2 := HX.out.c2
        have z3 := HX.out.c3
        have HEQ := Lib.hid (show ND ++ PD = L by rw [HPD'.out, HL.out, List.append_nil])
        have z4 := HX.out.c4
        have z5 := HX.out.c5
        rcases HPF.out with ⟨hn0, hm0⟩ | ⟨hn1, hl1⟩ | ⟨hn2, hm2⟩
        · subst hn0
          have HFIN := Lib.hid (show ND ++ PD ++ FD = L by rw [HFD.out, HEQ.out]; simp)
          have hdn : SliceOf wr (Lo N wr) (.slice a nL c) (ND ++ (PD ++ FD)) := by
            rw [← List.append_assoc, HFIN.out]
            have h := HROW.out.done (fun b h => by have := HN.out b h; have := HG.out; omega) (by rw [← HLL.out]; unfold maxLen; omega)
            first | exact h | (rw [HLL.out]; exact h)
          have HDN := Lib.hid hdn
          clear hdn
          go_wp2
          go_ret
          exact ⟨⟨_, rfl, by first | exact HDN.out | (rw [List.append_assoc]; exact HDN.out)⟩, HB.out⟩
        · subst hn1
          have HFD1 := Lib.hid (show FD = [rowD nArrow TF] by rw [HFD.out]; rfl)
          have hrlf := HROW.out
          try rw [← HLL.out] at hrlf
          have Cf := HCF.out ⟨nArrow.toArray⟩ wr (by decide) HB.out (fun b => N b ∨ (Value.slice a nL c).ownBlock = some b) (fun b h => h.elim (fun h => Nat.lt_of_lt_of_le (HN.out b h) HB.out.size) (fun h => by obtain ⟨_, ho, _⟩ := hrlf; exact (ho.lt b h).2)) (fun b h => h.imp id fun h => by obtain ⟨_, ho, _⟩ := hrlf; have := (ho.lt b h).1; have := HG.out; omega)
          have HCf := Lib.hid Cf
          clear Cf hrlf
          go_wp2_with fail
          refine HCf.out.mono ?_
          rintro e w4f ⟨⟨uf, rfl, hu⟩, hb4⟩
          obtain ⟨uaf, unf, ucf, rfl⟩ := hu.shape
          simp only [Dat.kind, Dat.text] at hu ⊢
          have HROW4f := Lib.hid (HROW.out.below hb4)
          have HB4f := Lib.hid (HB.out.trans (hb4.mono HB.out.size))
          have HX4f := Lib.hid (HX.out.keep hb4)
          have HD4f := Lib.hid hu
          clear hb4 hu
          obtain ⟨rsg, howng, hrawg⟩ := HROW4f.out
          have hdrg := HD4f.out.raw
          (try rw [← HLL.out] at howng)
          (try rw [← HLL.out] at hrawg)
          have HDRg := Lib.hid hdrg
          have HRAWg := Lib.hid hrawg
          have HOWNg := Lib.hid (howng.alloc (.cells #[.int .i64 5, .string ⟨#[]⟩, .slice uaf unf ucf] 39))
          have hbaseg : g + 1 ≤ w4f.heap.size := HX4f.out.lt
          have HBASEg := Lib.hid hbaseg
          clear howng hrawg hdrg hbaseg
          go_wp2_with (at_builtin; refine wpList_append_lies _ rfl _ _ 37 rfl (g + 1) 39 i0 (.agg #[.int .i64 0, .string ⟨#[]⟩, .slice none 0 0]) 3 48 Tryd.underlying37 hi hz0 hz1 hz2 rfl (by decide) _ nL (dsCells rsg) rfl HOWNg.out ⟨w4f.heap.size, 0, none⟩ 1 1 (dCells ⟨5, ⟨#[]⟩, .slice uaf unf ucf⟩) rfl rfl (World.news_of_block (heap_alloc_new w4f _)) ?_ (by omega) ?_ ?_ ?_ (w4f.heap.size + 1) (alloc_hs _ _) ?_)
          · intro x hx; simp only [dCells, List.mem_cons, List.not_mem_nil, or_false] at hx; rcases hx with rfl | rfl | rfl <;> rfl
          · unfold maxLen; omega
          · omega
          · rw [alloc_hs]; have := HBASEg.out; omega
          intro ggg capg w5g hown5 hgrow5 hlies5 hlt5
          have HROWg := Lib.hid (show RowAt N (g + 1) w5g (.slice (some ⟨ggg, 0, none⟩) (nL + 1) capg) (L ++ [(rowD nArrow TF)]) by
            have h2 : DawOf w4f (fun b => Lo N w4f b ∧ (Value.slice a nL c).ownBlock ≠ some b) ⟨5, ⟨#[]⟩, .slice uaf unf ucf⟩ (rowD nArrow TF) := HDRg.out.mono (fun b h => ⟨⟨h.1, fun e => h.2 (.inl e)⟩, fun e => h.2 (.inr e)⟩) fun _ _ _ => rfl
            have h1 := HRAWg.out
            have hn := HLL.out
            (try rw [hn] at h1)
            (try rw [hn] at h2)
            (try rw [hn] at hown5)
            (try rw [hn] at hgrow5)
            (try rw [hn] at hlies5)
            (try rw [hn])
            exact rowat_push h1 h2 hgrow5 hlies5 hown5)
          have hown4 := HOWNg.out
          have hge : ∀ k, (Value.slice a nL c).ownBlock = some k → g + 1 ≤ k := fun k hk => (hown4.lt k hk).1
          have HXg := Lib.hid (show BoxAt w5g g xa xf 0 (.slice xpa 0 xpc) 1 (.slice xfa xnf xfc) from (hgrow5.block g (by rw [alloc_hs]; have := HX4f.out.lt; omega) (fun e => by have := hge g e.symm; omega)).trans ((Below.heap_alloc _ _ _ HX4f.out.lt).trans HX4f.out))
          have HBg := Lib.hid (show Below w.heap.size w w5g from (HB4f.out.alloc HB4f.out.size _).grown hgrow5 (by rw [alloc_hs]; have := HB4f.out.size; omega) fun k hk => by have := hge k hk; have := HG.out; omega)
          clear hge hown4 hown5 hgrow5 hlies5 hlt5
          have HLLg := Lib.hid (show nL + 1 = (L ++ [rowD nArrow TF]).length by rw [List.length_append, ← HLL.out]; rfl)
          have HFIN := Lib.hid (show ND ++ PD ++ FD = L ++ [rowD nArrow TF] by rw [HFD1.out, HEQ.out])
          have hdn : SliceOf w5g (Lo N w5g) (.slice (some ⟨ggg, 0, none⟩) (nL + 1) capg) (ND ++ (PD ++ FD)) := by
            rw [← List.append_assoc, HFIN.out]
            have h := HROWg.out.done (fun b h => by have := HN.out b h; have := HG.out; omega) (by rw [← HLLg.out]; unfold maxLen; omega)
            first | exact h | (rw [HLLg.out]; exact h)
          have HDN := Lib.hid hdn
          clear hdn
          go_wp2
          go_ret
          exact ⟨⟨_, rfl, by first | exact HDN.out | (rw [List.append_assoc]; exact HDN.out)⟩, HBg.out⟩
        · subst hn2
          have HFD1 := Lib.hid (show FD = [symD nProc] by rw [HFD.out]; rfl)
          go_wp2_with fail
          refine (HCW.out ⟨nProc.toArray⟩ (by decide) wr).mono ?_
          rintro e w4f ⟨rfl, hb4⟩
          have HROW4f := Lib.hid (HROW.out.below hb4)
          have HB4f := Lib.hid (HB.out.trans (hb4.mono HB.out.size))
          have HX4f := Lib.hid (HX.out.keep hb4)
          have HD4f := Lib.hid (show DatVN (fun b => N b ∨ (Value.slice a nL c).ownBlock = some b) w4f (.agg #[.int .i64 1, .string ⟨nProc.toArray⟩, .slice none 0 0]) (symD nProc) from DatVN.mk (.mkNil _ _))
          clear hb4
          obtain ⟨rsg, howng, hrawg⟩ := HROW4f.out
          have hdrg := HD4f.out.raw
          (try rw [← HLL.out] at howng)
          (try rw [← HLL.out] at hrawg)
          have HDRg := Lib.hid hdrg
          have HRAWg := Lib.hid hrawg
          have HOWNg := Lib.hid (howng.alloc (.cells #[.int .i64 1, .string ⟨nProc.toArray⟩, .slice none 0 0] 39))
          have hbaseg : g + 1 ≤ w4f.heap.size := HX4f.out.lt
          have HBASEg := Lib.hid hbaseg
          clear howng hrawg hdrg hbaseg
          go_wp2_with (at_builtin; refine wpList_append_lies _ rfl _ _ 37 rfl (g + 1) 39 i0 (.agg #[.int .i64 0, .string ⟨#[]⟩, .slice none 0 0]) 3 48 Tryd.underlying37 hi hz0 hz1 hz2 rfl (by decide) _ nL (dsCells rsg) rfl HOWNg.out ⟨w4f.heap.size, 0, none⟩ 1 1 (dCells ⟨1, ⟨nProc.toArray⟩, .slice none 0 0⟩) rfl rfl (World.news_of_block (heap_alloc_new w4f _)) ?_ (by omega) ?_ ?_ ?_ (w4f.heap.size + 1) (alloc_hs _ _) ?_)
          · intro x hx; simp only [dCells, List.mem_cons, List.not_mem_nil, or_false] at hx; rcases hx with rfl | rfl | rfl <;> rfl
          · unfold maxLen; omega
          · omega
          · rw [alloc_hs]; have := HBASEg.out; omega
          intro ggg capg w5g hown5 hgrow5 hlies5 hlt5
          have HROWg := Lib.hid (show RowAt N (g + 1) w5g (.slice (some ⟨ggg, 0, none⟩) (nL + 1) capg) (L ++ [(symD nProc)]) by
            have h2 : DawOf w4f (fun b => Lo N w4f b ∧ (Value.slice a nL c).ownBlock ≠ some b) ⟨1, ⟨nProc.toArray⟩, .slice none 0 0⟩ (symD nProc) := HDRg.out.mono (fun b h => ⟨⟨h.1, fun e => h.2 (.inl e)⟩, fun e => h.2 (.inr e)⟩) fun _ _ _ => rfl
            have h1 := HRAWg.out
            have hn := HLL.out
            (try rw [hn] at h1)
            (try rw [hn] at h2)
            (try rw [hn] at hown5)
            (try rw [hn] at hgrow5)
            (try rw [hn] at hlies5)
            (try rw [hn])
            exact rowat_push h1 h2 hgrow5 hlies5 hown5)
          have hown4 := HOWNg.out
          have hge : ∀ k, (Value.slice a nL c).ownBlock = some k → g + 1 ≤ k := fun k hk => (hown4.lt k hk).1
          have HXg := Lib.hid (show BoxAt w5g g xa xf 0 (.slice xpa 0 xpc) 2 (.slice xfa xnf xfc) from (hgrow5.block g (by rw [alloc_hs]; have := HX4f.out.lt; omega) (fun e => by have := hge g e.symm; omega)).trans ((Below.heap_alloc _ _ _ HX4f.out.lt).trans HX4f.out))
          have HBg := Lib.hid (show Below w.heap.size w w5g from (HB4f.out.alloc HB4f.out.size _).grown hgrow5 (by rw [alloc_hs]; have := HB4f.out.size; omega) fun k hk => by have := hge k hk; have := HG.out; omega)
          clear hge hown4 hown5 hgrow5 hlies5 hlt5
          have HLLg := Lib.hid (show nL + 1 = (L ++ [symD nProc]).length by rw [List.length_append, ← HLL.out]; rfl)
          have HFIN := Lib.hid (show ND ++ PD ++ FD = L ++ [symD nProc] by rw [HFD1.out, HEQ.out])
          have hdn : SliceOf w5g (Lo N w5g) (.slice (some ⟨ggg, 0, none⟩) (nL + 1) capg) (ND ++ (PD ++ FD)) := by
            rw [← List.append_assoc, HFIN.out]
            have h := HROWg.out.done (fun b h => by have := HN.out b h; have := HG.out; omega) (by rw [← HLLg.out]; unfold maxLen; omega)
            first | exact h | (rw [HLLg.out]; exact h)
          have HDN := Lib.hid hdn
          clear hdn
          go_wp2
          go_ret
          exact ⟨⟨_, rfl, by first | exact HDN.out | (rw [List.append_assoc]; exact HDN.out)⟩, HBg.out⟩
  rcases px with ⟨rfl, rfl⟩ | ⟨rfl, rfl⟩
  · have HPD' := Lib.hid (show PD = [rowD nPair TP] by rw [HPD.out]; rfl)
    have HPF := Lib.hid pf
    clear pf
    have HBITS := Lib.hid (bits_F HF0.out.1 HF0.out.2)
    have HLE := Lib.hid (namesF_le xf)
    have HNF := Lib.hid (show namesF xf 6 = ND by rw [HND.out]; exact namesF_all xf)
    have hb0 := HBX.out.c0
    have x1 := HBX.out.c1
    have x2 := HBX.out.c2
    have x3 := HBX.out.c3
    have x4 := HBX.out.c4
    have x5 := HBX.out.c5
    have v0 := HFN.out.2.1
    have v1 := HFN.out.2.2.1
    have v2 := HFN.out.2.2.2.1
    have v3 := HFN.out.2.2.2.2.1
    have v4 := HFN.out.2.2.2.2.2.1
    have v5 := HFN.out.2.2.2.2.2.2
    clear hb0
    go_enter Tryd.func59, Tryd.ntmps59
    go_wp2_with fail
    rw [← HG.out, ← HW.out]
    go_quiet (fail)
    go_wp2
    obtain ⟨W2, hW2⟩ : ∃ W2, W2 = W.drewN nq := ⟨_, rfl⟩
    have HB2 := Lib.hid (show Below W.heap.size W W2 by rw [hW2]; exact below_drewN (Below.refl _ _) _)
    rw [← hW2]
    clear hW2
    clear v0 v1 v2 v3 v4 v5 x1 x2 x3 x4 x5
    try clear h16
    go_loopw [5, 6, 7, 26] (fun v _ _ i wr => ∃ (j : Nat) (L : List Dat) (a : Option Addr) (c : Nat), j ≤ 6 ∧ i = .int .i64 j ∧ v = .slice a L.length c ∧ Hid (L = namesF xf j) ∧ Hid (RowAt N (g + 1) wr (.slice a L.length c) L) ∧ Hid (Below w.heap.size w wr) ∧ Hid (BoxAt wr g xa xf 1 (.slice xpa 2 xpc) xn (.slice xfa xnf xfc))) (fun _ _ _ i _ => 6 - (intOf i).toNat)
    case atStart => exact ⟨0, [], none, 0, Nat.zero_le _, rfl, rfl, Lib.hid rfl, Lib.hid RowAt.nil, Lib.hid (HBW.out.trans (HB2.out.mono HBW.out.size)), Lib.hid (HBX.out.keep HB2.out)⟩
    case round =>
      obtain ⟨j, L, a, c, hj, rfl, rfl, HE, HROW, HB, HX⟩ := hrel
      by_cases hgo : j < 6
      · have HE2 := Lib.hid (namesF_succ xf j hgo)
        rw [← HE.out] at HE2
        have HBT := Lib.hid (HBITS.out j hgo)
        have hLl : L.length ≤ 6 := by have := HLE.out j (by omega); rw [← HE.out] at this; omega
        obtain ⟨nL, hnL⟩ : ∃ n, n = L.length := ⟨_, rfl⟩
        rw [← hnL] at hLl HROW ⊢
        have HLL := Lib.hid hnL
        rw [hnL] at HROW
        clear hnL HE
        have hjc : j = 0 ∨ j = 1 ∨ j = 2 ∨ j = 3 ∨ j = 4 ∨ j = 5 := by omega
        clear hgo hj
        rcases hjc with rfl | rfl | rfl | rfl | rfl | rfl
        · have hbt : (bits .and .i64 xf 1 != 0) = bitOf xf 1 := HBT.out
          have hix := ix0
          cases hz : bitOf xf 1 with
          | false =>
            rw [hz] at hbt
            have HE3 := Lib.hid (show L = namesF xf 1 by rw [HE2.out]; show _ = L ++ (if bitOf xf 1 then _ else _); rw [hz]; simp)
            clear hz
            go_wp2
            refine ⟨⟨1, L, a, c, by omega, by go_num, by rw [HLL.out], HE3, ?_, HB, HX⟩, ?_⟩
            · exact HROW
            · simp [intOf]
          | true =>
            rw [hz] at hbt
            have HE3 := Lib.hid (show L ++ [symD nInt] = namesF xf 1 by rw [HE2.out]; show _ = L ++ (if bitOf xf 1 then _ else _); rw [hz]; rfl)
            clear hz
            go_wp2_with fail
            refine (HCW.out ⟨nInt.toArray⟩ (by decide) wr).mono ?_
            rintro e w4 ⟨rfl, hb4⟩
            have HROW4 := Lib.hid (HROW.out.below hb4)
            have HB4 := Lib.hid (HB.out.trans (hb4.mono HB.out.size))
            have HX4 := Lib.hid (HX.out.keep hb4)
            have HD4 := Lib.hid (show DatVN (fun b => N b ∨ (Value.slice a nL c).ownBlock = some b) w4 (.agg #[.int .i64 1, .string ⟨nInt.toArray⟩, .slice none 0 0]) (symD nInt) from DatVN.mk (.mkNil _ _))
            clear hb4
            obtain ⟨rsq, hownq, hrawq⟩ := HROW4.out
            have hdrq := HD4.out.raw
            (try rw [← HLL.out] at hownq)
            (try rw [← HLL.out] at hrawq)
            have HDRq := Lib.hid hdrq
            have HRAWq := Lib.hid hrawq
            have HOWNq := Lib.hid (hownq.alloc (.cells #[.int .i64 1, .string ⟨nInt.toArray⟩, .slice none 0 0] 39))
            have hbaseq : g + 1 ≤ w4.heap.size := HX4.out.lt
            have HBASEq := Lib.hid hbaseq
            clear hownq hrawq hdrq hbaseq
            go_wp2_with (at_builtin; refine wpList_append_lies _ rfl _ _ 37 rfl (g + 1) 39 i0 (.agg #[.int .i64 0, .string ⟨#[]⟩, .slice none 0 0]) 3 48 Tryd.underlying37 hi hz0 hz1 hz2 rfl (by decide) _ nL (dsCells rsq) rfl HOWNq.out ⟨w4.heap.size, 0, none⟩ 1 1 (dCells ⟨1, ⟨nInt.toArray⟩, .slice none 0 0⟩) rfl rfl (World.news_of_block (heap_alloc_new w4 _)) ?_ (by omega) ?_ ?_ ?_ (w4.heap.size + 1) (alloc_hs _ _) ?_)
            · intro x hx; simp only [dCells, List.mem_cons, List.not_mem_nil, or_false] at hx; rcases hx with rfl | rfl | rfl <;> rfl
            · unfold maxLen; omega
            · omega
            · rw [alloc_hs]; have := HBASEq.out; omega
            intro ggq capq w5q hown5 hgrow5 hlies5 hlt5
            have HROWq := Lib.hid (show RowAt N (g + 1) w5q (.slice (some ⟨ggq, 0, none⟩) (nL + 1) capq) (L ++ [(symD nInt)]) by
              have h2 : DawOf w4 (fun b => Lo N w4 b ∧ (Value.slice a nL c).ownBlock ≠ some b) ⟨1, ⟨nInt.toArray⟩, .slice none 0 0⟩ (symD nInt) := HDRq.out.mono (fun b h => ⟨⟨h.1, fun e => h.2 (.inl e)⟩, fun e => h.2 (.inr e)⟩) fun _ _ _ => rfl
              have h1 := HRAWq.out
              have hn := HLL.out
              (try rw [hn] at h1)
              (try rw [hn] at h2)
              (try rw [hn] at hown5)
              (try rw [hn] at hgrow5)
              (try rw [hn] at hlies5)
              (try rw [hn])
              exact rowat_push h1 h2 hgrow5 hlies5 hown5)
            have hown4 := HOWNq.out
            have hge : ∀ k, (Value.slice a nL c).ownBlock = some k → g + 1 ≤ k := fun k hk => (hown4.lt k hk).1
            have HXq := Lib.hid (show BoxAt w5q g xa xf 1 (.slice xpa 2 xpc) xn (.slice xfa xnf xfc) from (hgrow5.block g (by rw [alloc_hs]; have := HX4.out.lt; omega) (fun e => by have := hge g e.symm; omega)).trans ((Below.heap_alloc _ _ _ HX4.out.lt).trans HX4.out))
            have HBq := Lib.hid (show Below w.heap.size w w5q from (HB4.out.alloc HB4.out.size _).grown hgrow5 (by rw [alloc_hs]; have := HB4.out.size; omega) fun k hk => by have := hge k hk; have := HG.out; omega)
            clear hge hown4 hown5 hgrow5 hlies5 hlt5
            go_wp2
            refine ⟨⟨1, L ++ [symD nInt], some ⟨ggq, 0, none⟩, capq, by omega, by go_num, ?_, HE3, ?_, HBq, HXq⟩, ?_⟩
            · rw [List.length_append, List.length_cons, List.length_nil, ← HLL.out]
            · rw [List.length_append, List.length_cons, List.length_nil, ← HLL.out]; exact HROWq
            · simp [intOf]
        · have hbt : (bits .and .i64 xf 2 != 0) = bitOf xf 2 := HBT.out
          have hix := ix1
          cases hz : bitOf xf 2 with
          | false =>
            rw [hz] at hbt
            have HE3 := Lib.hid (show L = namesF xf 2 by rw [HE2.out]; show _ = L ++ (if bitOf xf 2 then _ else _); rw [hz]; simp)
            clear hz
            go_wp2
            refine ⟨⟨2, L, a, c, by omega, by go_num, by rw [HLL.out], HE3, ?_, HB, HX⟩, ?_⟩
            · exact HROW
            · simp [intOf]
          | true =>
            rw [hz] at hbt
            have HE3 := Lib.hid (show L ++ [symD nBool] = namesF xf 2 by rw [HE2.out]; show _ = L ++ (if bitOf xf 2 then _ else _); rw [hz]; rfl)
            clear hz
            go_wp2_with fail
            refine (HCW.out ⟨nBool.toArray⟩ (by decide) wr).mono ?_
            rintro e w4 ⟨rfl, hb4⟩
            have HROW4 := Lib.hid (HROW.out.below hb4)
            have HB4 := Lib.hid (HB.out.trans (hb4.mono HB.out.size))
            have HX4 := Lib.hid (HX.out.keep hb4)
            have HD4 := Lib.hid (show DatVN (fun b => N b ∨ (Value.slice a nL c).ownBlock = some b) w4 (.agg #[.int .i64 1, .string ⟨nBool.toArray⟩, .slice none 0 0]) (symD nBool) from DatVN.mk (.mkNil _ _))
            clear hb4
            obtain ⟨rsq, hownq, hrawq⟩ := HROW4.out
            have hdrq := HD4.out.raw
            (try rw [← HLL.out] at hownq)
            (try rw [← HLL.out] at hrawq)
            have HDRq := Lib.hid hdrq
            have HRAWq := Lib.hid hrawq
            have HOWNq := Lib.hid (hownq.alloc (.cells #[.int .i64 1, .string ⟨nBool.toArray⟩, .slice none 0 0] 39))
            have hbaseq : g + 1 ≤ w4.heap.size := HX4.out.lt
            have HBASEq := Lib.hid hbaseq
            clear hownq hrawq hdrq hbaseq
            go_wp2_with (at_builtin; refine wpList_append_lies _ rfl _ _ 37 rfl (g + 1) 39 i0 (.agg #[.int .i64 0, .string ⟨#[]⟩, .slice none 0 0]) 3 48 Tryd.underlying37 hi hz0 hz1 hz2 rfl (by decide) _ nL (dsCells rsq) rfl HOWNq.out ⟨w4.heap.size, 0, none⟩ 1 1 (dCells ⟨1, ⟨nBool.toArray⟩, .slice none 0 0⟩) rfl rfl (World.news_of_block (heap_alloc_new w4 _)) ?_ (by omega) ?_ ?_ ?_ (w4.heap.size + 1) (alloc_hs _ _) ?_)
            · intro x hx; simp only [dCells, List.mem_cons, List.not_mem_nil, or_false] at hx; rcases hx with rfl | rfl | rfl <;> rfl
            · unfold maxLen; omega
            · omega
            · rw [alloc_hs]; have := HBASEq.out; omega
            intro ggq capq w5q hown5 hgrow5 hlies5 hlt5
            have HROWq := Lib.hid (show RowAt N (g + 1) w5q (.slice (some ⟨ggq, 0, none⟩) (nL + 1) capq) (L ++ [(symD nBool)]) by
              have h2 : DawOf w4 (fun b => Lo N w4 b ∧ (Value.slice a nL c).ownBlock ≠ some b) ⟨1, ⟨nBool.toArray⟩, .slice none 0 0⟩ (symD nBool) := HDRq.out.mono (fun b h => ⟨⟨h.1, fun e => h.2 (.inl e)⟩, fun e => h.2 (.inr e)⟩) fun _ _ _ => rfl
              have h1 := HRAWq.out
              have hn := HLL.out
              (try rw [hn] at h1)
              (try rw [hn] at h2)
              (try rw [hn] at hown5)
              (try rw [hn] at hgrow5)
              (try rw [hn] at hlies5)
              (try rw [hn])
              exact rowat_push h1 h2 hgrow5 hlies5 hown5)
            have hown4 := HOWNq.out
            have hge : ∀ k, (Value.slice a nL c).ownBlock = some k → g + 1 ≤ k := fun k hk => (hown4.lt k hk).1
            have HXq := Lib.hid (show BoxAt w5q g xa xf 1 (.slice xpa 2 xpc) xn (.slice xfa xnf xfc) from (hgrow5.block g (by rw [alloc_hs]; have := HX4.out.lt; omega) (fun e => by have := hge g e.symm; omega)).trans ((Below.heap_alloc _ _ _ HX4.out.lt).trans HX4.out))
            have HBq := Lib.hid (show Below w.heap.size w w5q from (HB4.out.alloc HB4.out.size _).grown hgrow5 (by rw [alloc_hs]; have := HB4.out.size; omega) fun k hk => by have := hge k hk; have := HG.out; omega)
            clear hge hown4 hown5 hgrow5 hlies5 hlt5
            go_wp2
            refine ⟨⟨2, L ++ [symD nBool], some ⟨ggq, 0, none⟩, capq, by omega, by go_num, ?_, HE3, ?_, HBq, HXq⟩, ?_⟩
            · rw [List.length_append, List.length_cons, List.length_nil, ← HLL.out]
            · rw [List.length_append, List.length_cons, List.length_nil, ← HLL.out]; exact HROWq
            · simp [intOf]
        · have hbt : (bits .and .i64 xf 4 != 0) = bitOf xf 4 := HBT.out
          have hix := ix2
          cases hz : bitOf xf 4 with
          | false =>
            rw [hz] at hbt
            have HE3 := Lib.hid (show L = namesF xf 3 by rw [HE2.out]; show _ = L ++ (if bitOf xf 4 then _ else _); rw [hz]; simp)
            clear hz
            go_wp2
            refine ⟨⟨3, L, a, c, by omega, by go_num, by rw [HLL.out], HE3, ?_, HB, HX⟩, ?_⟩
            · exact HROW
            · simp [intOf]
          | true =>
            rw [hz] at hbt
            have HE3 := Lib.hid (show L ++ [symD nStr] = namesF xf 3 by rw [HE2.out]; show _ = L ++ (if bitOf xf 4 then _ else _); rw [hz]; rfl)
            clear hz
            go_wp2_with fail
            refine (HCW.out ⟨nStr.toArray⟩ (by decide) wr).mono ?_
            rintro e w4 ⟨rfl, hb4⟩
            have HROW4 := Lib.hid (HROW.out.below hb4)
            have HB4 := Lib.hid (HB.out.trans (hb4.mono HB.out.size))
            have HX4 := Lib.hid (HX.out.keep hb4)
            have HD4 := Lib.hid (show DatVN (fun b => N b ∨ (Value.slice a nL c).ownBlock = some b) w4 (.agg #[.int .i64 1, .string ⟨nStr.toArray⟩, .slice none 0 0]) (symD nStr) from DatVN.mk (.mkNil _ _))
            clear hb4
            obtain ⟨rsq, hownq, hrawq⟩ := HROW4.out
            have hdrq := HD4.out.raw
            (try rw [← HLL.out] at hownq)
            (try rw [← HLL.out] at hrawq)
            have HDRq := Lib.hid hdrq
            have HRAWq := Lib.hid hrawq
            have HOWNq := Lib.hid (hownq.alloc (.cells #[.int .i64 1, .string ⟨nStr.toArray⟩, .slice none 0 0] 39))
            have hbaseq : g + 1 ≤ w4.heap.size := HX4.out.lt
            have HBASEq := Lib.hid hbaseq
            clear hownq hrawq hdrq hbaseq
            go_wp2_with (at_builtin; refine wpList_append_lies _ rfl _ _ 37 rfl (g + 1) 39 i0 (.agg #[.int .i64 0, .string ⟨#[]⟩, .slice none 0 0]) 3 48 Tryd.underlying37 hi hz0 hz1 hz2 rfl (by decide) _ nL (dsCells rsq) rfl HOWNq.out ⟨w4.heap.size, 0, none⟩ 1 1 (dCells ⟨1, ⟨nStr.toArray⟩, .slice none 0 0⟩) rfl rfl (World.news_of_block (heap_alloc_new w4 _)) ?_ (by omega) ?_ ?_ ?_ (w4.heap.size + 1) (alloc_hs _ _) ?_)
            · intro x hx; simp only [dCells, List.mem_cons, List.not_mem_nil, or_false] at hx; rcases hx with rfl | rfl | rfl <;> rfl
            · unfold maxLen; omega
            · omega
            · rw [alloc_hs]; have := HBASEq.out; omega
            intro ggq capq w5q hown5 hgrow5 hlies5 hlt5
            have HROWq := Lib.hid (show RowAt N (g + 1) w5q (.slice (some ⟨ggq, 0, none⟩) (nL + 1) capq) (L ++ [(symD nStr)]) by
              have h2 : DawOf w4 (fun b => Lo N w4 b ∧ (Value.slice a nL c).ownBlock ≠ some b) ⟨1, ⟨nStr.toArray⟩, .slice none 0 0⟩ (symD nStr) := HDRq.out.mono (fun b h => ⟨⟨h.1, fun e => h.2 (.inl e)⟩, fun e => h.2 (.inr e)⟩) fun _ _ _ => rfl
              have h1 := HRAWq.out
              have hn := HLL.out
              (try rw [hn] at h1)
              (try rw [hn] at h2)
              (try rw [hn] at hown5)
              (try rw [hn] at hgrow5)
              (try rw [hn] at hlies5)
              (try rw [hn])
              exact rowat_push h1 h2 hgrow5 hlies5 hown5)
            have hown4 := HOWNq.out
            have hge : ∀ k, (Value.slice a nL c).ownBlock = some k → g + 1 ≤ k := fun k hk => (hown4.lt k hk).1
            have HXq := Lib.hid (show BoxAt w5q g xa xf 1 (.slice xpa 2 xpc) xn (.slice xfa xnf xfc) from (hgrow5.block g (by rw [alloc_hs]; have := HX4.out.lt; omega) (fun e => by have := hge g e.symm; omega)).trans ((Below.heap_alloc _ _ _ HX4.out.lt).trans HX4.out))
            have HBq := Lib.hid (show Below w.heap.size w w5q from (HB4.out.alloc HB4.out.size _).grown hgrow5 (by rw [alloc_hs]; have := HB4.out.size; omega) fun k hk => by have := hge k hk; have := HG.out; omega)
            clear hge hown4 hown5 hgrow5 hlies5 hlt5
            go_wp2
            refine ⟨⟨3, L ++ [symD nStr], some ⟨ggq, 0, none⟩, capq, by omega, by go_num, ?_, HE3, ?_, HBq, HXq⟩, ?_⟩
            · rw [List.length_append, List.length_cons, List.length_nil, ← HLL.out]
            · rw [List.length_append, List.length_cons, List.length_nil, ← HLL.out]; exact HROWq
            · simp [intOf]
        · have hbt : (bits .and .i64 xf 8 != 0) = bitOf xf 8 := HBT.out
          have hix := ix3
          cases hz : bitOf xf 8 with
          | false =>
            rw [hz] at hbt
            have HE3 := Lib.hid (show L = namesF xf 4 by rw [HE2.out]; show _ = L ++ (if bitOf xf 8 then _ else _); rw [hz]; simp)
            clear hz
            go_wp2
            refine ⟨⟨4, L, a, c, by omega, by go_num, by rw [HLL.out], HE3, ?_, HB, HX⟩, ?_⟩
            · exact HROW
            · simp [intOf]
          | true =>
            rw [hz] at hbt
            have HE3 := Lib.hid (show L ++ [symD nSym] = namesF xf 4 by rw [HE2.out]; show _ = L ++ (if bitOf xf 8 then _ else _); rw [hz]; rfl)
            clear hz
            go_wp2_with fail
            refine (HCW.out ⟨nSym.toArray⟩ (by decide) wr).mono ?_
            rintro e w4 ⟨rfl, hb4⟩
            have HROW4 := Lib.hid (HROW.out.below hb4)
            have HB4 := Lib.hid (HB.out.trans (hb4.mono HB.out.size))
            have HX4 := Lib.hid (HX.out.keep hb4)
            have HD4 := Lib.hid (show DatVN (fun b => N b ∨ (Value.slice a nL c).ownBlock = some b) w4 (.agg #[.int .i64 1, .string ⟨nSym.toArray⟩, .slice none 0 0]) (symD nSym) from DatVN.mk (.mkNil _ _))
            clear hb4
            obtain ⟨rsq, hownq, hrawq⟩ := HROW4.out
            have hdrq := HD4.out.raw
            (try rw [← HLL.out] at hownq)
            (try rw [← HLL.out] at hrawq)
            have HDRq := Lib.hid hdrq
            have HRAWq := Lib.hid hrawq
            have HOWNq := Lib.hid (hownq.alloc (.cells #[.int .i64 1, .string ⟨nSym.toArray⟩, .slice none 0 0] 39))
            have hbaseq : g + 1 ≤ w4.heap.size := HX4.out.lt
            have HBASEq := Lib.hid hbaseq
            clear hownq hrawq hdrq hbaseq
            go_wp2_with (at_builtin; refine wpList_append_lies _ rfl _ _ 37 rfl (g + 1) 39 i0 (.agg #[.int .i64 0, .string ⟨#[]⟩, .slice none 0 0]) 3 48 Tryd.underlying37 hi hz0 hz1 hz2 rfl (by decide) _ nL (dsCells rsq) rfl HOWNq.out ⟨w4.heap.size, 0, none⟩ 1 1 (dCells ⟨1, ⟨nSym.toArray⟩, .slice none 0 0⟩) rfl rfl (World.news_of_block (heap_alloc_new w4 _)) ?_ (by omega) ?_ ?_ ?_ (w4.heap.size + 1) (alloc_hs _ _) ?_)
            · intro x hx; simp only [dCells, List.mem_cons, List.not_mem_nil, or_false] at hx; rcases hx with rfl | rfl | rfl <;> rfl
            · unfold maxLen; omega
            · omega
            · rw [alloc_hs]; have := HBASEq.out; omega
            intro ggq capq w5q hown5 hgrow5 hlies5 hlt5
            have HROWq := Lib.hid (show RowAt N (g + 1) w5q (.slice (some ⟨ggq, 0, none⟩) (nL + 1) capq) (L ++ [(symD nSym)]) by
              have h2 : DawOf w4 (fun b => Lo N w4 b ∧ (Value.slice a nL c).ownBlock ≠ some b) ⟨1, ⟨nSym.toArray⟩, .slice none 0 0⟩ (symD nSym) := HDRq.out.mono (fun b h => ⟨⟨h.1, fun e => h.2 (.inl e)⟩, fun e => h.2 (.inr e)⟩) fun _ _ _ => rfl
              have h1 := HRAWq.out
              have hn := HLL.out
              (try rw [hn] at h1)
              (try rw [hn] at h2)
              (try rw [hn] at hown5)
              (try rw [hn] at hgrow5)
              (try rw [hn] at hlies5)
              (try rw [hn])
              exact rowat_push h1 h2 hgrow5 hlies5 hown5)
            have hown4 := HOWNq.out
            have hge : ∀ k, (Value.slice a nL c).ownBlock = some k → g + 1 ≤ k := fun k hk => (hown4.lt k hk).1
            have HXq := Lib.hid (show BoxAt w5q g xa xf 1 (.slice xpa 2 xpc) xn (.slice xfa xnf xfc) from (hgrow5.block g (by rw [alloc_hs]; have := HX4.out.lt; omega) (fun e => by have := hge g e.symm; omega)).trans ((Below.heap_alloc _ _ _ HX4.out.lt).trans HX4.out))
            have HBq := Lib.hid (show Below w.heap.size w w5q from (HB4.out.alloc HB4.out.size _).grown hgrow5 (by rw [alloc_hs]; have := HB4.out.size; omega) fun k hk => by have := hge k hk; have := HG.out; omega)
            clear hge hown4 hown5 hgrow5 hlies5 hlt5
            go_wp2
            refine ⟨⟨4, L ++ [symD nSym], some ⟨ggq, 0, none⟩, capq, by omega, by go_num, ?_, HE3, ?_, HBq, HXq⟩, ?_⟩
            · rw [List.length_append, List.length_cons, List.length_nil, ← HLL.out]
            · rw [List.length_append, List.length_cons, List.length_nil, ← HLL.out]; exact HROWq
            · simp [intOf]
        · have hbt : (bits .and .i64 xf 16 != 0) = bitOf xf 16 := HBT.out
          have hix := ix4
          cases hz : bitOf xf 16 with
          | false =>
            rw [hz] at hbt
            have HE3 := Lib.hid (show L = namesF xf 5 by rw [HE2.out]; show _ = L ++ (if bitOf xf 16 then _ else _); rw [hz]; simp)
            clear hz
            go_wp2
            refine ⟨⟨5, L, a, c, by omega, by go_num, by rw [HLL.out], HE3, ?_, HB, HX⟩, ?_⟩
            · exact HROW
            · simp [intOf]
          | true =>
            rw [hz] at hbt
            have HE3 := Lib.hid (show L ++ [symD nNull] = namesF xf 5 by rw [HE2.out]; show _ = L ++ (if bitOf xf 16 then _ else _); rw [hz]; rfl)
            clear hz
            go_wp2_with fail
            refine (HCW.out ⟨nNull.toArray⟩ (by decide) wr).mono ?_
            rintro e w4 ⟨rfl, hb4⟩
            have HROW4 := Lib.hid (HROW.out.below hb4)
            have HB4 := Lib.hid (HB.out.trans (hb4.mono HB.out.size))
            have HX4 := Lib.hid (HX.out.keep hb4)
            have HD4 := Lib.hid (show DatVN (fun b => N b ∨ (Value.slice a nL c).ownBlock = some b) w4 (.agg #[.int .i64 1, .string ⟨nNull.toArray⟩, .slice none 0 0]) (symD nNull) from DatVN.mk (.mkNil _ _))
            clear hb4
            obtain ⟨rsq, hownq, hrawq⟩ := HROW4.out
            have hdrq := HD4.out.raw
            (try rw [← HLL.out] at hownq)
            (try rw [← HLL.out] at hrawq)
            have HDRq := Lib.hid hdrq
            have HRAWq := Lib.hid hrawq
            have HOWNq := Lib.hid (hownq.alloc (.cells #[.int .i64 1, .string ⟨nNull.toArray⟩, .slice none 0 0] 39))
            have hbaseq : g + 1 ≤ w4.heap.size := HX4.out.lt
            have HBASEq := Lib.hid hbaseq
            clear hownq hrawq hdrq hbaseq
            go_wp2_with (at_builtin; refine wpList_append_lies _ rfl _ _ 37 rfl (g + 1) 39 i0 (.agg #[.int .i64 0, .string ⟨#[]⟩, .slice none 0 0]) 3 48 Tryd.underlying37 hi hz0 hz1 hz2 rfl (by decide) _ nL (dsCells rsq) rfl HOWNq.out ⟨w4.heap.size, 0, none⟩ 1 1 (dCells ⟨1, ⟨nNull.toArray⟩, .slice none 0 0⟩) rfl rfl (World.news_of_block (heap_alloc_new w4 _)) ?_ (by omega) ?_ ?_ ?_ (w4.heap.size + 1) (alloc_hs _ _) ?_)
            · intro x hx; simp only [dCells, List.mem_cons, List.not_mem_nil, or_false] at hx; rcases hx with rfl | rfl | rfl <;> rfl
            · unfold maxLen; omega
            · omega
            · rw [alloc_hs]; have := HBASEq.out; omega
            intro ggq capq w5q hown5 hgrow5 hlies5 hlt5
            have HROWq := Lib.hid (show RowAt N (g + 1) w5q (.slice (some ⟨ggq, 0, none⟩) (nL + 1) capq) (L ++ [(symD nNull)]) by
              have h2 : DawOf w4 (fun b => Lo N w4 b ∧ (Value.slice a nL c).ownBlock ≠ some b) ⟨1, ⟨nNull.toArray⟩, .slice none 0 0⟩ (symD nNull) := HDRq.out.mono (fun b h => ⟨⟨h.1, fun e => h.2 (.inl e)⟩, fun e => h.2 (.inr e)⟩) fun _ _ _ => rfl
              have h1 := HRAWq.out
              have hn := HLL.out
              (try rw [hn] at h1)
              (try rw [hn] at h2)
              (try rw [hn] at hown5)
              (try rw [hn] at hgrow5)
              (try rw [hn] at hlies5)
              (try rw [hn])
              exact rowat_push h1 h2 hgrow5 hlies5 hown5)
            have hown4 := HOWNq.out
            have hge : ∀ k, (Value.slice a nL c).ownBlock = some k → g + 1 ≤ k := fun k hk => (hown4.lt k hk).1
            have HXq := Lib.hid (show BoxAt w5q g xa xf 1 (.slice xpa 2 xpc) xn (.slice xfa xnf xfc) from (hgrow5.block g (by rw [alloc_hs]; have := HX4.out.lt; omega) (fun e => by have := hge g e.symm; omega)).trans ((Below.heap_alloc _ _ _ HX4.out.lt).trans HX4.out))
            have HBq := Lib.hid (show Below w.heap.size w w5q from (HB4.out.alloc HB4.out.size _).grown hgrow5 (by rw [alloc_hs]; have := HB4.out.size; omega) fun k hk => by have := hge k hk; have := HG.out; omega)
            clear hge hown4 hown5 hgrow5 hlies5 hlt5
            go_wp2
            refine ⟨⟨5, L ++ [symD nNull], some ⟨ggq, 0, none⟩, capq, by omega, by go_num, ?_, HE3, ?_, HBq, HXq⟩, ?_⟩
            · rw [List.length_append, List.length_cons, List.length_nil, ← HLL.out]
            · rw [List.length_append, List.length_cons, List.length_nil, ← HLL.out]; exact HROWq
            · simp [intOf]
        · have hbt : (bits .and .i64 xf 32 != 0) = bitOf xf 32 := HBT.out
          have hix := ix5
          cases hz : bitOf xf 32 with
          | false =>
            rw [hz] at hbt
            have HE3 := Lib.hid (show L = namesF xf 6 by rw [HE2.out]; show _ = L ++ (if bitOf xf 32 then _ else _); rw [hz]; simp)
            clear hz
            go_wp2
            refine ⟨⟨6, L, a, c, by omega, by go_num, by rw [HLL.out], HE3, ?_, HB, HX⟩, ?_⟩
            · exact HROW
            · simp [intOf]
          | true =>
            rw [hz] at hbt
            have HE3 := Lib.hid (show L ++ [symD nVoid] = namesF xf 6 by rw [HE2.out]; show _ = L ++ (if bitOf xf 32 then _ else _); rw [hz]; rfl)
            clear hz
            go_wp2_with fail
            refine (HCW.out ⟨nVoid.toArray⟩ (by decide) wr).mono ?_
            rintro e w4 ⟨rfl, hb4⟩
            have HROW4 := Lib.hid (HROW.out.below hb4)
            have HB4 := Lib.hid (HB.out.trans (hb4.mono HB.out.size))
            have HX4 := Lib.hid (HX.out.keep hb4)
            have HD4 := Lib.hid (show DatVN (fun b => N b ∨ (Value.slice a nL c).ownBlock = some b) w4 (.agg #[.int .i64 1, .string ⟨nVoid.toArray⟩, .slice none 0 0]) (symD nVoid) from DatVN.mk (.mkNil _ _))
            clear hb4
            obtain ⟨rsq, hownq, hrawq⟩ := HROW4.out
            have hdrq := HD4.out.raw
            (try rw [← HLL.out] at hownq)
            (try rw [← HLL.out] at hrawq)
            have HDRq := Lib.hid hdrq
            have HRAWq := Lib.hid hrawq
            have HOWNq := Lib.hid (hownq.alloc (.cells #[.int .i64 1, .string ⟨nVoid.toArray⟩, .slice none 0 0] 39))
            have hbaseq : g + 1 ≤ w4.heap.size := HX4.out.lt
            have HBASEq := Lib.hid hbaseq
            clear hownq hrawq hdrq hbaseq
            go_wp2_with (at_builtin; refine wpList_append_lies _ rfl _ _ 37 rfl (g + 1) 39 i0 (.agg #[.int .i64 0, .string ⟨#[]⟩, .slice none 0 0]) 3 48 Tryd.underlying37 hi hz0 hz1 hz2 rfl (by decide) _ nL (dsCells rsq) rfl HOWNq.out ⟨w4.heap.size, 0, none⟩ 1 1 (dCells ⟨1, ⟨nVoid.toArray⟩, .slice none 0 0⟩) rfl rfl (World.news_of_block (heap_alloc_new w4 _)) ?_ (by omega) ?_ ?_ ?_ (w4.heap.size + 1) (alloc_hs _ _) ?_)
            · intro x hx; simp only [dCells, List.mem_cons, List.not_mem_nil, or_false] at hx; rcases hx with rfl | rfl | rfl <;> rfl
            · unfold maxLen; omega
            · omega
            · rw [alloc_hs]; have := HBASEq.out; omega
            intro ggq capq w5q hown5 hgrow5 hlies5 hlt5
            have HROWq := Lib.hid (show RowAt N (g + 1) w5q (.slice (some ⟨ggq, 0, none⟩) (nL + 1) capq) (L ++ [(symD nVoid)]) by
              have h2 : DawOf w4 (fun b => Lo N w4 b ∧ (Value.slice a nL c).ownBlock ≠ some b) ⟨1, ⟨nVoid.toArray⟩, .slice none 0 0⟩ (symD nVoid) := HDRq.out.mono (fun b h => ⟨⟨h.1, fun e => h.2 (.inl e)⟩, fun e => h.2 (.inr e)⟩) fun _ _ _ => rfl
              have h1 := HRAWq.out
              have hn := HLL.out
              (try rw [hn] at h1)
              (try rw [hn] at h2)
              (try rw [hn] at hown5)
              (try rw [hn] at hgrow5)
              (try rw [hn] at hlies5)
              (try rw [hn])
              exact rowat_push h1 h2 hgrow5 hlies5 hown5)
            have hown4 := HOWNq.out
            have hge : ∀ k, (Value.slice a nL c).ownBlock = some k → g + 1 ≤ k := fun k hk => (hown4.lt k hk).1
            have HXq := Lib.hid (show BoxAt w5q g xa xf 1 (.slice xpa 2 xpc) xn (.slice xfa xnf xfc) from (hgrow5.block g (by rw [alloc_hs]; have := HX4.out.lt; omega) (fun e => by have := hge g e.symm; omega)).trans ((Below.heap_alloc _ _ _ HX4.out.lt).trans HX4.out))
            have HBq := Lib.hid (show Below w.heap.size w w5q from (HB4.out.alloc HB4.out.size _).grown hgrow5 (by rw [alloc_hs]; have := HB4.out.size; omega) fun k hk => by have := hge k hk; have := HG.out; omega)
            clear hge hown4 hown5 hgrow5 hlies5 hlt5
            go_wp2
            refine ⟨⟨6, L ++ [symD nVoid], some ⟨ggq, 0, none⟩, capq, by omega, by go_num, ?_, HE3, ?_, HBq, HXq⟩, ?_⟩
            · rw [List.length_append, List.length_cons, List.length_nil, ← HLL.out]
            · rw [List.length_append, List.length_cons, List.length_nil, ← HLL.out]; exact HROWq
            · simp [intOf]
      · have hj6 : j = 6 := by omega
        subst hj6
        have hL : L = ND := by rw [HE.out]; exact HNF.out
        have HL := Lib.hid hL
        have hLl : L.length ≤ 6 := by rw [HE.out]; exact HLE.out 6 (by omega)
        obtain ⟨nL, hnL⟩ : ∃ n, n = L.length := ⟨_, rfl⟩
        have HLL := Lib.hid hnL
        rw [← hnL] at hLl ⊢
        clear hnL hL hgo hj HE
        have z2 := HX.out.c2
        have z3 := HX.out.c3
        have hrlp := HROW.out
        try rw [← HLL.out] at hrlp
        have Cp := HCP.out ⟨nPair.toArray⟩ wr (by decide) HB.out (fun b => N b ∨ (Value.slice a nL c).ownBlock = some b) (fun b h => h.elim (fun h => Nat.lt_of_lt_of_le (HN.out b h) HB.out.size) (fun h => by obtain ⟨_, ho, _⟩ := hrlp; exact (ho.lt b h).2)) (fun b h => h.imp id fun h => by obtain ⟨_, ho, _⟩ := hrlp; have := (ho.lt b h).1; have := HG.out; omega)
        have HCp := Lib.hid Cp
        clear Cp hrlp
        go_wp2_with fail
        refine HCp.out.mono ?_
        rintro e w4p ⟨⟨up, rfl, hu⟩, hb4⟩
        obtain ⟨uap, unp, ucp, rfl⟩ := hu.shape
        simp only [Dat.kind, Dat.text] at hu ⊢
        have HROW4p := Lib.hid (HROW.out.below hb4)
        have HB4p := Lib.hid (HB.out.trans (hb4.mono HB.out.size))
        have HX4p := Lib.hid (HX.out.keep hb4)
        have HD4p := Lib.hid hu
        clear hb4 hu
        clear z2 z3
        obtain ⟨rso, howno, hrawo⟩ := HROW4p.out
        have hdro := HD4p.out.raw
        (try rw [← HLL.out] at howno)
        (try rw [← HLL.out] at hrawo)
        have HDRo := Lib.hid hdro
        have HRAWo := Lib.hid hrawo
        have HOWNo := Lib.hid (howno.alloc (.cells #[.int .i64 5, .string ⟨#[]⟩, .slice uap unp ucp] 39))
        have hbaseo : g + 1 ≤ w4p.heap.size := HX4p.out.lt
        have HBASEo := Lib.hid hbaseo
        clear howno hrawo hdro hbaseo
        go_wp2_with (at_builtin; refine wpList_append_lies _ rfl _ _ 37 rfl (g + 1) 39 i0 (.agg #[.int .i64 0, .string ⟨#[]⟩, .slice none 0 0]) 3 48 Tryd.underlying37 hi hz0 hz1 hz2 rfl (by decide) _ nL (dsCells rso) rfl HOWNo.out ⟨w4p.heap.size, 0, none⟩ 1 1 (dCells ⟨5, ⟨#[]⟩, .slice uap unp ucp⟩) rfl rfl (World.news_of_block (heap_alloc_new w4p _)) ?_ (by omega) ?_ ?_ ?_ (w4p.heap.size + 1) (alloc_hs _ _) ?_)
        · intro x hx; simp only [dCells, List.mem_cons, List.not_mem_nil, or_false] at hx; rcases hx with rfl | rfl | rfl <;> rfl
        · unfold maxLen; omega
        · omega
        · rw [alloc_hs]; have := HBASEo.out; omega
        intro ggo capo w5o hown5 hgrow5 hlies5 hlt5
        have HROWo := Lib.hid (show RowAt N (g + 1) w5o (.slice (some ⟨ggo, 0, none⟩) (nL + 1) capo) (L ++ [(rowD nPair TP)]) by
          have h2 : DawOf w4p (fun b => Lo N w4p b ∧ (Value.slice a nL c).ownBlock ≠ some b) ⟨5, ⟨#[]⟩, .slice uap unp ucp⟩ (rowD nPair TP) := HDRo.out.mono (fun b h => ⟨⟨h.1, fun e => h.2 (.inl e)⟩, fun e => h.2 (.inr e)⟩) fun _ _ _ => rfl
          have h1 := HRAWo.out
          have hn := HLL.out
          (try rw [hn] at h1)
          (try rw [hn] at h2)
          (try rw [hn] at hown5)
          (try rw [hn] at hgrow5)
          (try rw [hn] at hlies5)
          (try rw [hn])
          exact rowat_push h1 h2 hgrow5 hlies5 hown5)
        have hown4 := HOWNo.out
        have hge : ∀ k, (Value.slice a nL c).ownBlock = some k → g + 1 ≤ k := fun k hk => (hown4.lt k hk).1
        have HXo := Lib.hid (show BoxAt w5o g xa xf 1 (.slice xpa 2 xpc) xn (.slice xfa xnf xfc) from (hgrow5.block g (by rw [alloc_hs]; have := HX4p.out.lt; omega) (fun e => by have := hge g e.symm; omega)).trans ((Below.heap_alloc _ _ _ HX4p.out.lt).trans HX4p.out))
        have HBo := Lib.hid (show Below w.heap.size w w5o from (HB4p.out.alloc HB4p.out.size _).grown hgrow5 (by rw [alloc_hs]; have := HB4p.out.size; omega) fun k hk => by have := hge k hk; have := HG.out; omega)
        clear hge hown4 hown5 hgrow5 hlies5 hlt5
        have HLLo := Lib.hid (show nL + 1 = (L ++ [rowD nPair TP]).length by rw [List.length_append, ← HLL.out]; rfl)
        have HEQ := Lib.hid (show ND ++ PD = (L ++ [rowD nPair TP]) by rw [HPD'.out, HL.out])
        have z4 := HXo.out.c4
        have z5 := HXo.out.c5
        rcases HPF.out with ⟨hn0, hm0⟩ | ⟨hn1, hl1⟩ | ⟨hn2, hm2⟩
        · subst hn0
          have HFIN := Lib.hid (show ND ++ PD ++ FD = (L ++ [rowD nPair TP]) by rw [HFD.out, HEQ.out]; simp)
          have hdn : SliceOf w5o (Lo N w5o) (.slice (some ⟨ggo, 0, none⟩) (nL + 1) capo) (ND ++ (PD ++ FD)) := by
            rw [← List.append_assoc, HFIN.out]
            have h := HROWo.out.done (fun b h => by have := HN.out b h; have := HG.out; omega) (by rw [← HLLo.out]; unfold maxLen; omega)
            first | exact h | (rw [HLLo.out]; exact h)
          have HDN := Lib.hid hdn
          clear hdn
          go_wp2
          go_ret
          exact ⟨⟨_, rfl, by first | exact HDN.out | (rw [List.append_assoc]; exact HDN.out)⟩, HBo.out⟩
        · subst hn1
          have HFD1 := Lib.hid (show FD = [rowD nArrow TF] by rw [HFD.out]; rfl)
          have hrlf := HROWo.out
          try rw [← HLLo.out] at hrlf
          have Cf := HCF.out ⟨nArrow.toArray⟩ w5o (by decide) HBo.out (fun b => N b ∨ (Value.slice (some ⟨ggo, 0, none⟩) (nL + 1) capo).ownBlock = some b) (fun b h => h.elim (fun h => Nat.lt_of_lt_of_le (HN.out b h) HBo.out.size) (fun h => by obtain ⟨_, ho, _⟩ := hrlf; exact (ho.lt b h).2)) (fun b h => h.imp id fun h => by obtain ⟨_, ho, _⟩ := hrlf; have := (ho.lt b h).1; have := HG.out; omega)
          have HCf := Lib.hid Cf
          clear Cf hrlf
          go_wp2_with fail
          refine HCf.out.mono ?_
          rintro e w4f ⟨⟨uf, rfl, hu⟩, hb4⟩
          obtain ⟨uaf, unf, ucf, rfl⟩ := hu.shape
          simp only [Dat.kind, Dat.text] at hu ⊢
          have HROW4f := Lib.hid (HROWo.out.below hb4)
          have HB4f := Lib.hid (HBo.out.trans (hb4.mono HBo.out.size))
          have HX4f := Lib.hid (HXo.out.keep hb4)
          have HD4f := Lib.hid hu
          clear hb4 hu
          obtain ⟨rsg, howng, hrawg⟩ := HROW4f.out
          have hdrg := HD4f.out.raw
          (try rw [← HLLo.out] at howng)
          (try rw [← HLLo.out] at hrawg)
          have HDRg := Lib.hid hdrg
          have HRAWg := Lib.hid hrawg
          have HOWNg := Lib.hid (howng.alloc (.cells #[.int .i64 5, .string ⟨#[]⟩, .slice uaf unf ucf] 39))
          have hbaseg : g + 1 ≤ w4f.heap.size := HX4f.out.lt
          have HBASEg := Lib.hid hbaseg
          clear howng hrawg hdrg hbaseg
          go_wp2_with (at_builtin; refine wpList_append_lies _ rfl _ _ 37 rfl (g + 1) 39 i0 (.agg #[.int .i64 0, .string ⟨#[]⟩, .slice none 0 0]) 3 48 Tryd.underlying37 hi hz0 hz1 hz2 rfl (by decide) _ (nL + 1) (dsCells rsg) rfl HOWNg.out ⟨w4f.heap.size, 0, none⟩ 1 1 (dCells ⟨5, ⟨#[]⟩, .slice uaf unf ucf⟩) rfl rfl (World.news_of_block (heap_alloc_new w4f _)) ?_ (by omega) ?_ ?_ ?_ (w4f.heap.size + 1) (alloc_hs _ _) ?_)
          · intro x hx; simp only [dCells, List.mem_cons, List.not_mem_nil, or_false] at hx; rcases hx with rfl | rfl | rfl <;> rfl
          · unfold maxLen; omega
          · omega
          · rw [alloc_hs]; have := HBASEg.out; omega
          intro ggg capg w5g hown5 hgrow5 hlies5 hlt5
          have HROWg := Lib.hid (show RowAt N (g + 1) w5g (.slice (some ⟨ggg, 0, none⟩) ((nL + 1) + 1) capg) ((L ++ [rowD nPair TP]) ++ [(rowD nArrow TF)]) by
            have h2 : DawOf w4f (fun b => Lo N w4f b ∧ (Value.slice (some ⟨ggo, 0, none⟩) (nL + 1) capo).ownBlock ≠ some b) ⟨5, ⟨#[]⟩, .slice uaf unf ucf⟩ (rowD nArrow TF) := HDRg.out.mono (fun b h => ⟨⟨h.1, fun e => h.2 (.inl e)⟩, fun e => h.2 (.inr e)⟩) fun _ _ _ => rfl
            have h1 := HRAWg.out
            have hn := HLLo.out
            (try rw [hn] at h1)
            (try rw [hn] at h2)
            (try rw [hn] at hown5)
            (try rw [hn] at hgrow5)
            (try rw [hn] at hlies5)
            (try rw [hn])
            exact rowat_push h1 h2 hgrow5 hlies5 hown5)
          have hown4 := HOWNg.out
          have hge : ∀ k, (Value.slice (some ⟨ggo, 0, none⟩) (nL + 1) capo).ownBlock = some k → g + 1 ≤ k := fun k hk => (hown4.lt k hk).1
          have HXg := Lib.hid (show BoxAt w5g g xa xf 1 (.slice xpa 2 xpc) 1 (.slice xfa xnf xfc) from (hgrow5.block g (by rw [alloc_hs]; have := HX4f.out.lt; omega) (fun e => by have := hge g e.symm; omega)).trans ((Below.heap_alloc _ _ _ HX4f.out.lt).trans HX4f.out))
          have HBg := Lib.hid (show Below w.heap.size w w5g from (HB4f.out.alloc HB4f.out.size _).grown hgrow5 (by rw [alloc_hs]; have := HB4f.out.size; omega) fun k hk => by have := hge k hk; have := HG.out; omega)
          clear hge hown4 hown5 hgrow5 hlies5 hlt5
          have HLLg := Lib.hid (show (nL + 1) + 1 = ((L ++ [rowD nPair TP]) ++ [rowD nArrow TF]).length by rw [List.length_append, ← HLLo.out]; rfl)
          have HFIN := Lib.hid (show ND ++ PD ++ FD = (L ++ [rowD nPair TP]) ++ [rowD nArrow TF] by rw [HFD1.out, HEQ.out])
          have hdn : SliceOf w5g (Lo N w5g) (.slice (some ⟨ggg, 0, none⟩) ((nL + 1) + 1) capg) (ND ++ (PD ++ FD)) := by
            rw [← List.append_assoc, HFIN.out]
            have h := HROWg.out.done (fun b h => by have := HN.out b h; have := HG.out; omega) (by rw [← HLLg.out]; unfold maxLen; omega)
            first | exact h | (rw [HLLg.out]; exact h)
          have HDN := Lib.hid hdn
          clear hdn
          go_wp2
          go_ret
          exact ⟨⟨_, rfl, by first | exact HDN.out | (rw [List.append_assoc]; exact HDN.out)⟩, HBg.out⟩
        · subst hn2
          have HFD1 := Lib.hid (show FD = [symD nProc] by rw [HFD.out]; rfl)
          go_wp2_with fail
          refine (HCW.out ⟨nProc.toArray⟩ (by decide) w5o).mono ?_
          rintro e w4f ⟨rfl, hb4⟩
          have HROW4f := Lib.hid (HROWo.out.below hb4)
          have HB4f := Lib.hid (HBo.out.trans (hb4.mono HBo.out.size))
          have HX4f := Lib.hid (HXo.out.keep hb4)
          have HD4f := Lib.hid (show DatVN (fun b => N b ∨ (Value.slice (some ⟨ggo, 0, none⟩) (nL + 1) capo).ownBlock = some b) w4f (.agg #[.int .i64 1, .string ⟨nProc.toArray⟩, .slice none 0 0]) (symD nProc) from DatVN.mk (.mkNil _ _))
          clear hb4
          obtain ⟨rsg, howng, hrawg⟩ := HROW4f.out
          have hdrg := HD4f.out.raw
          (try rw [← HLLo.out] at howng)
          (try rw [← HLLo.out] at hrawg)
          have HDRg := Lib.hid hdrg
          have HRAWg := Lib.hid hrawg
          have HOWNg := Lib.hid (howng.alloc (.cells #[.int .i64 1, .string ⟨nProc.toArray⟩, .slice none 0 0] 39))
          have hbaseg : g + 1 ≤ w4f.heap.size := HX4f.out.lt
          have HBASEg := Lib.hid hbaseg
          clear howng hrawg hdrg hbaseg
          go_wp2_with (at_builtin; refine wpList_append_lies _ rfl _ _ 37 rfl (g + 1) 39 i0 (.agg #[.int .i64 0, .string ⟨#[]⟩, .slice none 0 0]) 3 48 Tryd.underlying37 hi hz0 hz1 hz2 rfl (by decide) _ (nL + 1) (dsCells rsg) rfl HOWNg.out ⟨w4f.heap.size, 0, none⟩ 1 1 (dCells ⟨1, ⟨nProc.toArray⟩, .slice none 0 0⟩) rfl rfl (World.news_of_block (heap_alloc_new w4f _)) ?_ (by omega) ?_ ?_ ?_ (w4f.heap.size + 1) (alloc_hs _ _) ?_)
          · intro x hx; simp only [dCells, List.mem_cons, List.not_mem_nil, or_false] at hx; rcases hx with rfl | rfl | rfl <;> rfl
          · unfold maxLen; omega
          · omega
          · rw [alloc_hs]; have := HBASEg.out; omega
          intro ggg capg w5g hown5 hgrow5 hlies5 hlt5
          have HROWg := Lib.hid (show RowAt N (g + 1) w5g (.slice (some ⟨ggg, 0, none⟩) ((nL + 1) + 1) capg) ((L ++ [rowD nPair TP]) ++ [(symD nProc)]) by
            have h2 : DawOf w4f (fun b => Lo N w4f b ∧ (Value.slice (some ⟨ggo, 0, none⟩) (nL + 1) capo).ownBlock ≠ some b) ⟨1, ⟨nProc.toArray⟩, .slice none 0 0⟩ (symD nProc) := HDRg.out.mono (fun b h => ⟨⟨h.1, fun e => h.2 (.inl e)⟩, fun e => h.2 (.inr e)⟩) fun _ _ _ => rfl
            have h1 := HRAWg.out
            have hn := HLLo.out
            (try rw [hn] at h1)
            (try rw [hn] at h2)
            (try rw [hn] at hown5)
            (try rw [hn] at hgrow5)
            (try rw [hn] at hlies5)
            (try rw [hn])
            exact rowat_push h1 h2 hgrow5 hlies5 hown5)
          have hown4 := HOWNg.out
          have hge : ∀ k, (Value.slice (some ⟨ggo, 0, none⟩) (nL + 1) capo).ownBlock = some k → g + 1 ≤ k := fun k hk => (hown4.lt k hk).1
          have HXg := Lib.hid (show BoxAt w5g g xa xf 1 (.slice xpa 2 xpc) 2 (.slice xfa xnf xfc) from (hgrow5.block g (by rw [alloc_hs]; have := HX4f.out.lt; omega) (fun e => by have := hge g e.symm; omega)).trans ((Below.heap_alloc _ _ _ HX4f.out.lt).trans HX4f.out))
          have HBg := Lib.hid (show Below w.heap.size w w5g from (HB4f.out.alloc HB4f.out.size _).grown hgrow5 (by rw [alloc_hs]; have := HB4f.out.size; omega) fun k hk => by have := hge k hk; have := HG.out; omega)
          clear hge hown4 hown5 hgrow5 hlies5 hlt5
          have HLLg := Lib.hid (show (nL + 1) + 1 = ((L ++ [rowD nPair TP]) ++ [symD nProc]).length by rw [List.length_append, ← HLLo.out]; rfl)
          have HFIN := Lib.hid (show ND ++ PD ++ FD = (L ++ [rowD nPair TP]) ++ [symD nProc] by rw [HFD1.out, HEQ.out])
          have hdn : SliceOf w5g (Lo N w5g) (.slice (some ⟨ggg, 0, none⟩) ((nL + 1) + 1) capg) (ND ++ (PD ++ FD)) := by
            rw [← List.append_assoc, HFIN.out]
            have h := HROWg.out.done (fun b h => by have := HN.out b h; have := HG.out; omega) (by rw [← HLLg.out]; unfold maxLen; omega)
            first | exact h | (rw [HLLg.out]; exact h)
          have HDN := Lib.hid hdn
          clear hdn
          go_wp2
          go_ret
          exact ⟨⟨_, rfl, by first | exact HDN.out | (rw [List.append_assoc]; exact HDN.out)⟩, HBg.out⟩
  have HPF := Lib.hid pf
  clear pf
  have hb16 := bits_F HF0.out.1 HF0.out.2 4 (by omega)
  cases hz16 : bitOf xf 16 with
  | false =>
    have h16 : (bits .and .i64 xf 16 != 0) = false := by rw [← hz16]; exact hb16
    have HPD' := Lib.hid (show PD = [rowD nList1 TP] by rw [HPD.out, hz16]; rfl)
    have HNF := Lib.hid (show namesF xf 6 = ND by rw [HND.out]; exact namesF_no hz16)
    clear hb16 hz16
    have HBITS := Lib.hid (bits_F HF0.out.1 HF0.out.2)
    have HLE := Lib.hid (namesF_le xf)
    have hb0 := HBX.out.c0
    have x1 := HBX.out.c1
    have x2 := HBX.out.c2
    have x3 := HBX.out.c3
    have x4 := HBX.out.c4
    have x5 := HBX.out.c5
    have v0 := HFN.out.2.1
    have v1 := HFN.out.2.2.1
    have v2 := HFN.out.2.2.2.1
    have v3 := HFN.out.2.2.2.2.1
    have v4 := HFN.out.2.2.2.2.2.1
    have v5 := HFN.out.2.2.2.2.2.2
    clear hb0
    go_enter Tryd.func59, Tryd.ntmps59
    go_wp2_with fail
    rw [← HG.out, ← HW.out]
    go_quiet (fail)
    go_wp2
    obtain ⟨W2, hW2⟩ : ∃ W2, W2 = W.drewN nq := ⟨_, rfl⟩
    have HB2 := Lib.hid (show Below W.heap.size W W2 by rw [hW2]; exact below_drewN (Below.refl _ _) _)
    rw [← hW2]
    clear hW2
    clear v0 v1 v2 v3 v4 v5 x1 x2 x3 x4 x5
    try clear h16
    go_loopw [5, 6, 7, 26] (fun v _ _ i wr => ∃ (j : Nat) (L : List Dat) (a : Option Addr) (c : Nat), j ≤ 6 ∧ i = .int .i64 j ∧ v = .slice a L.length c ∧ Hid (L = namesF xf j) ∧ Hid (RowAt N (g + 1) wr (.slice a L.length c) L) ∧ Hid (Below w.heap.size w wr) ∧ Hid (BoxAt wr g xa xf 2 (.slice xpa 1 xpc) xn (.slice xfa xnf xfc))) (fun _ _ _ i _ => 6 - (intOf i).toNat)
    case atStart => exact ⟨0, [], none, 0, Nat.zero_le _, rfl, rfl, Lib.hid rfl, Lib.hid RowAt.nil, Lib.hid (HBW.out.trans (HB2.out.mono HBW.out.size)), Lib.hid (HBX.out.keep HB2.out)⟩
    case round =>
      obtain ⟨j, L, a, c, hj, rfl, rfl, HE, HROW, HB, HX⟩ := hrel
      by_cases hgo : j < 6
      · have HE2 := Lib.hid (namesF_succ xf j hgo)
        rw [← HE.out] at HE2
        have HBT := Lib.hid (HBITS.out j hgo)
        have hLl : L.length ≤ 6 := by have := HLE.out j (by omega); rw [← HE.out] at this; omega
        obtain ⟨nL, hnL⟩ : ∃ n, n = L.length := ⟨_, rfl⟩
        rw [← hnL] at hLl HROW ⊢
        have HLL := Lib.hid hnL
        rw [hnL] at HROW
        clear hnL HE
        have hjc : j = 0 ∨ j = 1 ∨ j = 2 ∨ j = 3 ∨ j = 4 ∨ j = 5 := by omega
        clear hgo hj
        rcases hjc with rfl | rfl | rfl | rfl | rfl | rfl
        · have hbt : (bits .and .i64 xf 1 != 0) = bitOf xf 1 := HBT.out
          have hix := ix0
          cases hz : bitOf xf 1 with
          | false =>
            rw [hz] at hbt
            have HE3 := Lib.hid (show L = namesF xf 1 by rw [HE2.out]; show _ = L ++ (if bitOf xf 1 then _ else _); rw [hz]; simp)
            clear hz
            go_wp2
            refine ⟨⟨1, L, a, c, by omega, by go_num, by rw [HLL.out], HE3, ?_, HB, HX⟩, ?_⟩
            · exact HROW
            · simp [intOf]
          | true =>
            rw [hz] at hbt
            have HE3 := Lib.hid (show L ++ [symD nInt] = namesF xf 1 by rw [HE2.out]; show _ = L ++ (if bitOf xf 1 then _ else _); rw [hz]; rfl)
            clear hz
            go_wp2_with fail
            refine (HCW.out ⟨nInt.toArray⟩ (by decide) wr).mono ?_
            rintro e w4 ⟨rfl, hb4⟩
            have HROW4 := Lib.hid (HROW.out.below hb4)
            have HB4 := Lib.hid (HB.out.trans (hb4.mono HB.out.size))
            have HX4 := Lib.hid (HX.out.keep hb4)
            have HD4 := Lib.hid (show DatVN (fun b => N b ∨ (Value.slice a nL c).ownBlock = some b) w4 (.agg #[.int .i64 1, .string ⟨nInt.toArray⟩, .slice none 0 0]) (symD nInt) from DatVN.mk (.mkNil _ _))
            clear hb4
            obtain ⟨rsq, hownq, hrawq⟩ := HROW4.out
            have hdrq := HD4.out.raw
            (try rw [← HLL.out] at hownq)
            (try rw [← HLL.out] at hrawq)
            have HDRq := Lib.hid hdrq
            have HRAWq := Lib.hid hrawq
            have HOWNq := Lib.hid (hownq.alloc (.cells #[.int .i64 1, .string ⟨nInt.toArray⟩, .slice none 0 0] 39))
            have hbaseq : g + 1 ≤ w4.heap.size := HX4.out.lt
            have HBASEq := Lib.hid hbaseq
            clear hownq hrawq hdrq hbaseq
            go_wp2_with (at_builtin; refine wpList_append_lies _ rfl _ _ 37 rfl (g + 1) 39 i0 (.agg #[.int .i64 0, .string ⟨#[]⟩, .slice none 0 0]) 3 48 Tryd.underlying37 hi hz0 hz1 hz2 rfl (by decide) _ nL (dsCells rsq) rfl HOWNq.out ⟨w4.heap.size, 0, none⟩ 1 1 (dCells ⟨1, ⟨nInt.toArray⟩, .slice none 0 0⟩) rfl rfl (World.news_of_block (heap_alloc_new w4 _)) ?_ (by omega) ?_ ?_ ?_ (w4.heap.size + 1) (alloc_hs _ _) ?_)
            · intro x hx; simp only [dCells, List.mem_cons, List.not_mem_nil, or_false] at hx; rcases hx with rfl | rfl | rfl <;> rfl
            · unfold maxLen; omega
            · omega
            · rw [alloc_hs]; have := HBASEq.out; omega
            intro ggq capq w5q hown5 hgrow5 hlies5 hlt5
            have HROWq := Lib.hid (show RowAt N (g + 1) w5q (.slice (some ⟨ggq, 0, none⟩) (nL + 1) capq) (L ++ [(symD nInt)]) by
              have h2 : DawOf w4 (fun b => Lo N w4 b ∧ (Value.slice a nL c).ownBlock ≠ some b) ⟨1, ⟨nInt.toArray⟩, .slice none 0 0⟩ (symD nInt) := HDRq.out.mono (fun b h => ⟨⟨h.1, fun e => h.2 (.inl e)⟩, fun e => h.2 (.inr e)⟩) fun _ _ _ => rfl
              have h1 := HRAWq.out
              have hn := HLL.out
              (try rw [hn] at h1)
              (try rw [hn] at h2)
              (try rw [hn] at hown5)
              (try rw [hn] at hgrow5)
              (try rw [hn] at hlies5)
              (try rw [hn])
              exact rowat_push h1 h2 hgrow5 hlies5 hown5)
            have hown4 := HOWNq.out
            have hge : ∀ k, (Value.slice a nL c).ownBlock = some k → g + 1 ≤ k := fun k hk => (hown4.lt k hk).1
            have HXq := Lib.hid (show BoxAt w5q g xa xf 2 (.slice xpa 1 xpc) xn (.slice xfa xnf xfc) from (hgrow5.block g (by rw [alloc_hs]; have := HX4.out.lt; omega) (fun e => by have := hge g e.symm; omega)).trans ((Below.heap_alloc _ _ _ HX4.out.lt).trans HX4.out))
            have HBq := Lib.hid (show Below w.heap.size w w5q from (HB4.out.alloc HB4.out.size _).grown hgrow5 (by rw [alloc_hs]; have := HB4.out.size; omega) fun k hk => by have := hge k hk; have := HG.out; omega)
            clear hge hown4 hown5 hgrow5 hlies5 hlt5
            go_wp2
            refine ⟨⟨1, L ++ [symD nInt], some ⟨ggq, 0, none⟩, capq, by omega, by go_num, ?_, HE3, ?_, HBq, HXq⟩, ?_⟩
            · rw [List.length_append, List.length_cons, List.length_nil, ← HLL.out]
            · rw [List.length_append, List.length_cons, List.length_nil, ← HLL.out]; exact HROWq
            · simp [intOf]
        · have hbt : (bits .and .i64 xf 2 != 0) = bitOf xf 2 := HBT.out
          have hix := ix1
          cases hz : bitOf xf 2 with
          | false =>
            rw [hz] at hbt
            have HE3 := Lib.hid (show L = namesF xf 2 by rw [HE2.out]; show _ = L ++ (if bitOf xf 2 then _ else _); rw [hz]; simp)
            clear hz
            go_wp2
            refine ⟨⟨2, L, a, c, by omega, by go_num, by rw [HLL.out], HE3, ?_, HB, HX⟩, ?_⟩
            · exact HROW
            · simp [intOf]
          | true =>
            rw [hz] at hbt
            have HE3 := Lib.hid (show L ++ [symD nBool] = namesF xf 2 by rw [HE2.out]; show _ = L ++ (if bitOf xf 2 then _ else _); rw [hz]; rfl)
            clear hz
            go_wp2_with fail
            refine (HCW.out ⟨nBool.toArray⟩ (by decide) wr).mono ?_
            rintro e w4 ⟨rfl, hb4⟩
            have HROW4 := Lib.hid (HROW.out.below hb4)
            have HB4 := Lib.hid (HB.out.trans (hb4.mono HB.out.size))
            have HX4 := Lib.hid (HX.out.keep hb4)
            have HD4 := Lib.hid (show DatVN (fun b => N b ∨ (Value.slice a nL c).ownBlock = some b) w4 (.agg #[.int .i64 1, .string ⟨nBool.toArray⟩, .slice none 0 0]) (symD nBool) from DatVN.mk (.mkNil _ _))
            clear hb4
            obtain ⟨rsq, hownq, hrawq⟩ := HROW4.out
            have hdrq := HD4.out.raw
            (try rw [← HLL.out] at hownq)
            (try rw [← HLL.out] at hrawq)
            have HDRq := Lib.hid hdrq
            have HRAWq := Lib.hid hrawq
            have HOWNq := Lib.hid (hownq.alloc (.cells #[.int .i64 1, .string ⟨nBool.toArray⟩, .slice none 0 0] 39))
            have hbaseq : g + 1 ≤ w4.heap.size := HX4.out.lt
            have HBASEq := Lib.hid hbaseq
            clear hownq hrawq hdrq hbaseq
            go_wp2_with (at_builtin; refine wpList_append_lies _ rfl _ _ 37 rfl (g + 1) 39 i0 (.agg #[.int .i64 0, .string ⟨#[]⟩, .slice none 0 0]) 3 48 Tryd.underlying37 hi hz0 hz1 hz2 rfl (by decide) _ nL (dsCells rsq) rfl HOWNq.out ⟨w4.heap.size, 0, none⟩ 1 1 (dCells ⟨1, ⟨nBool.toArray⟩, .slice none 0 0⟩) rfl rfl (World.news_of_block (heap_alloc_new w4 _)) ?_ (by omega) ?_ ?_ ?_ (w4.heap.size + 1) (alloc_hs _ _) ?_)
            · intro x hx; simp only [dCells, List.mem_cons, List.not_mem_nil, or_false] at hx; rcases hx with rfl | rfl | rfl <;> rfl
            · unfold maxLen; omega
            · omega
            · rw [alloc_hs]; have := HBASEq.out; omega
            intro ggq capq w5q hown5 hgrow5 hlies5 hlt5
            have HROWq := Lib.hid (show RowAt N (g + 1) w5q (.slice (some ⟨ggq, 0, none⟩) (nL + 1) capq) (L ++ [(symD nBool)]) by
              have h2 : DawOf w4 (fun b => Lo N w4 b ∧ (Value.slice a nL c).ownBlock ≠ some b) ⟨1, ⟨nBool.toArray⟩, .slice none 0 0⟩ (symD nBool) := HDRq.out.mono (fun b h => ⟨⟨h.1, fun e => h.2 (.inl e)⟩, fun e => h.2 (.inr e)⟩) fun _ _ _ => rfl
              have h1 := HRAWq.out
              have hn := HLL.out
              (try rw [hn] at h1)
              (try rw [hn] at h2)
              (try rw [hn] at hown5)
              (try rw [hn] at hgrow5)
              (try rw [hn] at hlies5)
              (try rw [hn])
              exact rowat_push h1 h2 hgrow5 hlies5 hown5)
            have hown4 := HOWNq.out
            have hge : ∀ k, (Value.slice a nL c).ownBlock = some k → g + 1 ≤ k := fun k hk => (hown4.lt k hk).1
            have HXq := Lib.hid (show BoxAt w5q g xa xf 2 (.slice xpa 1 xpc) xn (.slice xfa xnf xfc) from (hgrow5.block g (by rw [alloc_hs]; have := HX4.out.lt; omega) (fun e => by have := hge g e.symm; omega)).trans ((Below.heap_alloc _ _ _ HX4.out.lt).trans HX4.out))
            have HBq := Lib.hid (show Below w.heap.size w w5q from (HB4.out.alloc HB4.out.size _).grown hgrow5 (by rw [alloc_hs]; have := HB4.out.size; omega) fun k hk => by have := hge k hk; have := HG.out; omega)
            clear hge hown4 hown5 hgrow5 hlies5 hlt5
            go_wp2
            refine ⟨⟨2, L ++ [symD nBool], some ⟨ggq, 0, none⟩, capq, by omega, by go_num, ?_, HE3, ?_, HBq, HXq⟩, ?_⟩
            · rw [List.length_append, List.length_cons, List.length_nil, ← HLL.out]
            · rw [List.length_append, List.length_cons, List.length_nil, ← HLL.out]; exact HROWq
            · simp [intOf]
        · have hbt : (bits .and .i64 xf 4 != 0) = bitOf xf 4 := HBT.out
          have hix := ix2
          cases hz : bitOf xf 4 with
          | false =>
            rw [hz] at hbt
            have HE3 := Lib.hid (show L = namesF xf 3 by rw [HE2.out]; show _ = L ++ (if bitOf xf 4 then _ else _); rw [hz]; simp)
            clear hz
            go_wp2
            refine ⟨⟨3, L, a, c, by omega, by go_num, by rw [HLL.out], HE3, ?_, HB, HX⟩, ?_⟩
            · exact HROW
            · simp [intOf]
          | true =>
            rw [hz] at hbt
            have HE3 := Lib.hid (show L ++ [symD nStr] = namesF xf 3 by rw [HE2.out]; show _ = L ++ (if bitOf xf 4 then _ else _); rw [hz]; rfl)
            clear hz
            go_wp2_with fail
            refine (HCW.out ⟨nStr.toArray⟩ (by decide) wr).mono ?_
            rintro e w4 ⟨rfl, hb4⟩
            have HROW4 := Lib.hid (HROW.out.below hb4)
            have HB4 := Lib.hid (HB.out.trans (hb4.mono HB.out.size))
            have HX4 := Lib.hid (HX.out.keep hb4)
            have HD4 := Lib.hid (show DatVN (fun b => N b ∨ (Value.slice a nL c).ownBlock = some b) w4 (.agg #[.int .i64 1, .string ⟨nStr.toArray⟩, .slice none 0 0]) (symD nStr) from DatVN.mk (.mkNil _ _))
            clear hb4
            obtain ⟨rsq, hownq, hrawq⟩ := HROW4.out
            have hdrq := HD4.out.raw
            (try rw [← HLL.out] at hownq)
            (try rw [← HLL.out] at hrawq)
            have HDRq := Lib.hid hdrq
            have HRAWq := Lib.hid hrawq
            have HOWNq := Lib.hid (hownq.alloc (.cells #[.int .i64 1, .string ⟨nStr.toArray⟩, .slice none 0 0] 39))
            have hbaseq : g + 1 ≤ w4.heap.size := HX4.out.lt
            have HBASEq := Lib.hid hbaseq
            clear hownq hrawq hdrq hbaseq
            go_wp2_with (at_builtin; refine wpList_append_lies _ rfl _ _ 37 rfl (g + 1) 39 i0 (.agg #[.int .i64 0, .string ⟨#[]⟩, .slice none 0 0]) 3 48 Tryd.underlying37 hi hz0 hz1 hz2 rfl (by decide) _ nL (dsCells rsq) rfl HOWNq.out ⟨w4.heap.size, 0, none⟩ 1 1 (dCells ⟨1, ⟨nStr.toArray⟩, .slice none 0 0⟩) rfl rfl (World.news_of_block (heap_alloc_new w4 _)) ?_ (by omega) ?_ ?_ ?_ (w4.heap.size + 1) (alloc_hs _ _) ?_)
            · intro x hx; simp only [dCells, List.mem_cons, List.not_mem_nil, or_false] at hx; rcases hx with rfl | rfl | rfl <;> rfl
            · unfold maxLen; omega
            · omega
            · rw [alloc_hs]; have := HBASEq.out; omega
            intro ggq capq w5q hown5 hgrow5 hlies5 hlt5
            have HROWq := Lib.hid (show RowAt N (g + 1) w5q (.slice (some ⟨ggq, 0, none⟩) (nL + 1) capq) (L ++ [(symD nStr)]) by
              have h2 : DawOf w4 (fun b => Lo N w4 b ∧ (Value.slice a nL c).ownBlock ≠ some b) ⟨1, ⟨nStr.toArray⟩, .slice none 0 0⟩ (symD nStr) := HDRq.out.mono (fun b h => ⟨⟨h.1, fun e => h.2 (.inl e)⟩, fun e => h.2 (.inr e)⟩) fun _ _ _ => rfl
              have h1 := HRAWq.out
              have hn := HLL.out
              (try rw [hn] at h1)
              (try rw [hn] at h2)
              (try rw [hn] at hown5)
              (try rw [hn] at hgrow5)
              (try rw [hn] at hlies5)
              (try rw [hn])
              exact rowat_push h1 h2 hgrow5 hlies5 hown5)
            have hown4 := HOWNq.out
            have hge : ∀ k, (Value.slice a nL c).ownBlock = some k → g + 1 ≤ k := fun k hk => (hown4.lt k hk).1
            have HXq := Lib.hid (show BoxAt w5q g xa xf 2 (.slice xpa 1 xpc) xn (.slice xfa xnf xfc) from (hgrow5.block g (by rw [alloc_hs]; have := HX4.out.lt; omega) (fun e => by have := hge g e.symm; omega)).trans ((Below.heap_alloc _ _ _ HX4.out.lt).trans HX4.out))
            have HBq := Lib.hid (show Below w.heap.size w w5q from (HB4.out.alloc HB4.out.size _).grown hgrow5 (by rw [alloc_hs]; have := HB4.out.size; omega) fun k hk => by have := hge k hk; have := HG.out; omega)
            clear hge hown4 hown5 hgrow5 hlies5 hlt5
            go_wp2
            refine ⟨⟨3, L ++ [symD nStr], some ⟨ggq, 0, none⟩, capq, by omega, by go_num, ?_, HE3, ?_, HBq, HXq⟩, ?_⟩
            · rw [List.length_append, List.length_cons, List.length_nil, ← HLL.out]
            · rw [List.length_append, List.length_cons, List.length_nil, ← HLL.out]; exact HROWq
            · simp [intOf]
        · have hbt : (bits .and .i64 xf 8 != 0) = bitOf xf 8 := HBT.out
          have hix := ix3
          cases hz : bitOf xf 8 with
          | false =>
            rw [hz] at hbt
            have HE3 := Lib.hid (show L = namesF xf 4 by rw [HE2.out]; show _ = L ++ (if bitOf xf 8 then _ else _); rw [hz]; simp)
            clear hz
            go_wp2
            refine ⟨⟨4, L, a, c, by omega, by go_num, by rw [HLL.out], HE3, ?_, HB, HX⟩, ?_⟩
            · exact HROW
            · simp [intOf]
          | true =>
            rw [hz] at hbt
            have HE3 := Lib.hid (show L ++ [symD nSym] = namesF xf 4 by rw [HE2.out]; show _ = L ++ (if bitOf xf 8 then _ else _); rw [hz]; rfl)
            clear hz
            go_wp2_with fail
            refine (HCW.out ⟨nSym.toArray⟩ (by decide) wr).mono ?_
            rintro e w4 ⟨rfl, hb4⟩
            have HROW4 := Lib.hid (HROW.out.below hb4)
            have HB4 := Lib.hid (HB.out.trans (hb4.mono HB.out.size))
            have HX4 := Lib.hid (HX.out.keep hb4)
            have HD4 := Lib.hid (show DatVN (fun b => N b ∨ (Value.slice a nL c).ownBlock = some b) w4 (.agg #[.int .i64 1, .string ⟨nSym.toArray⟩, .slice none 0 0]) (symD nSym) from DatVN.mk (.mkNil _ _))
            clear hb4
            obtain ⟨rsq, hownq, hrawq⟩ := HROW4.out
            have hdrq := HD4.out.raw
            (try rw [← HLL.out] at hownq)
            (try rw [← HLL.out] at hrawq)
            have HDRq := Lib.hid hdrq
            have HRAWq := Lib.hid hrawq
            have HOWNq := Lib.hid (hownq.alloc (.cells #[.int .i64 1, .string ⟨nSym.toArray⟩, .slice none 0 0] 39))
            have hbaseq : g + 1 ≤ w4.heap.size := HX4.out.lt
            have HBASEq := Lib.hid hbaseq
            clear hownq hrawq hdrq hbaseq
            go_wp2_with (at_builtin; refine wpList_append_lies _ rfl _ _ 37 rfl (g + 1) 39 i0 (.agg #[.int .i64 0, .string ⟨#[]⟩, .slice none 0 0]) 3 48 Tryd.underlying37 hi hz0 hz1 hz2 rfl (by decide) _ nL (dsCells rsq) rfl HOWNq.out ⟨w4.heap.size, 0, none⟩ 1 1 (dCells ⟨1, ⟨nSym.toArray⟩, .slice none 0 0⟩) rfl rfl (World.news_of_block (heap_alloc_new w4 _)) ?_ (by omega) ?_ ?_ ?_ (w4.heap.size + 1) (alloc_hs _ _) ?_)
            · intro x hx; simp only [dCells, List.mem_cons, List.not_mem_nil, or_false] at hx; rcases hx with rfl | rfl | rfl <;> rfl
            · unfold maxLen; omega
            · omega
            · rw [alloc_hs]; have := HBASEq.out; omega
            intro ggq capq w5q hown5 hgrow5 hlies5 hlt5
            have HROWq := Lib.hid (show RowAt N (g + 1) w5q (.slice (some ⟨ggq, 0, none⟩) (nL + 1) capq) (L ++ [(symD nSym)]) by
              have h2 : DawOf w4 (fun b => Lo N w4 b ∧ (Value.slice a nL c).ownBlock ≠ some b) ⟨1, ⟨nSym.toArray⟩, .slice none 0 0⟩ (symD nSym) := HDRq.out.mono (fun b h => ⟨⟨h.1, fun e => h.2 (.inl e)⟩, fun e => h.2 (.inr e)⟩) fun _ _ _ => rfl
              have h1 := HRAWq.out
              have hn := HLL.out
              (try rw [hn] at h1)
              (try rw [hn] at h2)
              (try rw [hn] at hown5)
              (try rw [hn] at hgrow5)
              (try rw [hn] at hlies5)
              (try rw [hn])
              exact rowat_push h1 h2 hgrow5 hlies5 hown5)
            have hown4 := HOWNq.out
            have hge : ∀ k, (Value.slice a nL c).ownBlock = some k → g + 1 ≤ k := fun k hk => (hown4.lt k hk).1
            have HXq := Lib.hid (show BoxAt w5q g xa xf 2 (.slice xpa 1 xpc) xn (.slice xfa xnf xfc) from (hgrow5.block g (by rw [alloc_hs]; have := HX4.out.lt; omega) (fun e => by have := hge g e.symm; omega)).trans ((Below.heap_alloc _ _ _ HX4.out.lt).trans HX4.out))
            have HBq := Lib.hid (show Below w.heap.size w w5q from (HB4.out.alloc HB4.out.size _).grown hgrow5 (by rw [alloc_hs]; have := HB4.out.size; omega) fun k hk => by have := hge k hk; have := HG.out; omega)
            clear hge hown4 hown5 hgrow5 hlies5 hlt5
            go_wp2
            refine ⟨⟨4, L ++ [symD nSym], some ⟨ggq, 0, none⟩, capq, by omega, by go_num, ?_, HE3, ?_, HBq, HXq⟩, ?_⟩
            · rw [List.length_append, List.length_cons, List.length_nil, ← HLL.out]
            · rw [List.length_append, List.length_cons, List.length_nil, ← HLL.out]; exact HROWq
            · simp [intOf]
        · have hbt : (bits .and .i64 xf 16 != 0) = bitOf xf 16 := HBT.out
          have hix := ix4
          cases hz : bitOf xf 16 with
          | false =>
            rw [hz] at hbt
            have HE3 := Lib.hid (show L = namesF xf 5 by rw [HE2.out]; show _ = L ++ (if bitOf xf 16 then _ else _); rw [hz]; simp)
            clear hz
            go_wp2
            refine ⟨⟨5, L, a, c, by omega, by go_num, by rw [HLL.out], HE3, ?_, HB, HX⟩, ?_⟩
            · exact HROW
            · simp [intOf]
          | true =>
            rw [hz] at hbt
            have HE3 := Lib.hid (show L ++ [symD nNull] = namesF xf 5 by rw [HE2.out]; show _ = L ++ (if bitOf xf 16 then _ else _); rw [hz]; rfl)
            clear hz
            go_wp2_with fail
            refine (HCW.out ⟨nNull.toArray⟩ (by decide) wr).mono ?_
            rintro e w4 ⟨rfl, hb4⟩
            have HROW4 := Lib.hid (HROW.out.below hb4)
            have HB4 := Lib.hid (HB.out.trans (hb4.mono HB.out.size))
            have HX4 := Lib.hid (HX.out.keep hb4)
            have HD4 := Lib.hid (show DatVN (fun b => N b ∨ (Value.slice a nL c).ownBlock = some b) w4 (.agg #[.int .i64 1, .string ⟨nNull.toArray⟩, .slice none 0 0]) (symD nNull) from DatVN.mk (.mkNil _ _))
            clear hb4
            obtain ⟨rsq, hownq, hrawq⟩ := HROW4.out
            have hdrq := HD4.out.raw
            (try rw [← HLL.out] at hownq)
            (try rw [← HLL.out] at hrawq)
            have HDRq := Lib.hid hdrq
            have HRAWq := Lib.hid hrawq
            have HOWNq := Lib.hid (hownq.alloc (.cells #[.int .i64 1, .string ⟨nNull.toArray⟩, .slice none 0 0] 39))
            have hbaseq : g + 1 ≤ w4.heap.size := HX4.out.lt
            have HBASEq := Lib.hid hbaseq
            clear hownq hrawq hdrq hbaseq
            go_wp2_with (at_builtin; refine wpList_append_lies _ rfl _ _ 37 rfl (g + 1) 39 i0 (.agg #[.int .i64 0, .string ⟨#[]⟩, .slice none 0 0]) 3 48 Tryd.underlying37 hi hz0 hz1 hz2 rfl (by decide) _ nL (dsCells rsq) rfl HOWNq.out ⟨w4.heap.size, 0, none⟩ 1 1 (dCells ⟨1, ⟨nNull.toArray⟩, .slice none 0 0⟩) rfl rfl (World.news_of_block (heap_alloc_new w4 _)) ?_ (by omega) ?_ ?_ ?_ (w4.heap.size + 1) (alloc_hs _ _) ?_)
            · intro x hx; simp only [dCells, List.mem_cons, List.not_mem_nil, or_false] at hx; rcases hx with rfl | rfl | rfl <;> rfl
            · unfold maxLen; omega
            · omega
            · rw [alloc_hs]; have := HBASEq.out; omega
            intro ggq capq w5q hown5 hgrow5 hlies5 hlt5
            have HROWq := Lib.hid (show RowAt N (g + 1) w5q (.slice (some ⟨ggq, 0, none⟩) (nL + 1) capq) (L ++ [(symD nNull)]) by
              have h2 : DawOf w4 (fun b => Lo N w4 b ∧ (Value.slice a nL c).ownBlock ≠ some b) ⟨1, ⟨nNull.toArray⟩, .slice none 0 0⟩ (symD nNull) := HDRq.out.mono (fun b h => ⟨⟨h.1, fun e => h.2 (.inl e)⟩, fun e => h.2 (.inr e)⟩) fun _ _ _ => rfl
              have h1 := HRAWq.out
              have hn := HLL.out
              (try rw [hn] at h1)
              (try rw [hn] at h2)
              (try rw [hn] at hown5)
              (try rw [hn] at hgrow5)
              (try rw [hn] at hlies5)
              (try rw [hn])
              exact rowat_push h1 h2 hgrow5 hlies5 hown5)
            have hown4 := HOWNq.out
            have hge : ∀ k, (Value.slice a nL c).ownBlock = some k → g + 1 ≤ k := fun k hk => (hown4.lt k hk).1
            have HXq := Lib.hid (show BoxAt w5q g xa xf 2 (.slice xpa 1 xpc) xn (.slice xfa xnf xfc) from (hgrow5.block g (by rw [alloc_hs]; have := HX4.out.lt; omega) (fun e => by have := hge g e.symm; omega)).trans ((Below.heap_alloc _ _ _ HX4.out.lt).trans HX4.out))
            have HBq := Lib.hid (show Below w.heap.size w w5q from (HB4.out.alloc HB4.out.size _).grown hgrow5 (by rw [alloc_hs]; have := HB4.out.size; omega) fun k hk => by have := hge k hk; have := HG.out; omega)
            clear hge hown4 hown5 hgrow5 hlies5 hlt5
            go_wp2
            refine ⟨⟨5, L ++ [symD nNull], some ⟨ggq, 0, none⟩, capq, by omega, by go_num, ?_, HE3, ?_, HBq, HXq⟩, ?_⟩
            · rw [List.length_append, List.length_cons, List.length_nil, ← HLL.out]
            · rw [List.length_append, List.length_cons, List.length_nil, ← HLL.out]; exact HROWq
            · simp [intOf]
        · have hbt : (bits .and .i64 xf 32 != 0) = bitOf xf 32 := HBT.out
          have hix := ix5
          cases hz : bitOf xf 32 with
          | false =>
            rw [hz] at hbt
            have HE3 := Lib.hid (show L = namesF xf 6 by rw [HE2.out]; show _ = L ++ (if bitOf xf 32 then _ else _); rw [hz]; simp)
            clear hz
            go_wp2
            refine ⟨⟨6, L, a, c, by omega, by go_num, by rw [HLL.out], HE3, ?_, HB, HX⟩, ?_⟩
            · exact HROW
            · simp [intOf]
          | true =>
            rw [hz] at hbt
            have HE3 := Lib.hid (show L ++ [symD nVoid] = namesF xf 6 by rw [HE2.out]; show _ = L ++ (if bitOf xf 32 then _ else _); rw [hz]; rfl)
            clear hz
            go_wp2_with fail
            refine (HCW.out ⟨nVoid.toArray⟩ (by decide) wr).mono ?_
            rintro e w4 ⟨rfl, hb4⟩
            have HROW4 := Lib.hid (HROW.out.below hb4)
            have HB4 := Lib.hid (HB.out.trans (hb4.mono HB.out.size))
            have HX4 := Lib.hid (HX.out.keep hb4)
            have HD4 := Lib.hid (show DatVN (fun b => N b ∨ (Value.slice a nL c).ownBlock = some b) w4 (.agg #[.int .i64 1, .string ⟨nVoid.toArray⟩, .slice none 0 0]) (symD nVoid) from DatVN.mk (.mkNil _ _))
            clear hb4
            obtain ⟨rsq, hownq, hrawq⟩ := HROW4.out
            have hdrq := HD4.out.raw
            (try rw [← HLL.out] at hownq)
            (try rw [← HLL.out] at hrawq)
            have HDRq := Lib.hid hdrq
            have HRAWq := Lib.hid hrawq
            have HOWNq := Lib.hid (hownq.alloc (.cells #[.int .i64 1, .string ⟨nVoid.toArray⟩, .slice none 0 0] 39))
            have hbaseq : g + 1 ≤ w4.heap.size := HX4.out.lt
            have HBASEq := Lib.hid hbaseq
            clear hownq hrawq hdrq hbaseq
            go_wp2_with (at_builtin; refine wpList_append_lies _ rfl _ _ 37 rfl (g + 1) 39 i0 (.agg #[.int .i64 0, .string ⟨#[]⟩, .slice none 0 0]) 3 48 Tryd.underlying37 hi hz0 hz1 hz2 rfl (by decide) _ nL (dsCells rsq) rfl HOWNq.out ⟨w4.heap.size, 0, none⟩ 1 1 (dCells ⟨1, ⟨nVoid.toArray⟩, .slice none 0 0⟩) rfl rfl (World.news_of_block (heap_alloc_new w4 _)) ?_ (by omega) ?_ ?_ ?_ (w4.heap.size + 1) (alloc_hs _ _) ?_)
            · intro x hx; simp only [dCells, List.mem_cons, List.not_mem_nil, or_false] at hx; rcases hx with rfl | rfl | rfl <;> rfl
            · unfold maxLen; omega
            · omega
            · rw [alloc_hs]; have := HBASEq.out; omega
            intro ggq capq w5q hown5 hgrow5 hlies5 hlt5
            have HROWq := Lib.hid (show RowAt N (g + 1) w5q (.slice (some ⟨ggq, 0, none⟩) (nL + 1) capq) (L ++ [(symD nVoid)]) by
              have h2 : DawOf w4 (fun b => Lo N w4 b ∧ (Value.slice a nL c).ownBlock ≠ some b) ⟨1, ⟨nVoid.toArray⟩, .slice none 0 0⟩ (symD nVoid) := HDRq.out.mono (fun b h => ⟨⟨h.1, fun e => h.2 (.inl e)⟩, fun e => h.2 (.inr e)⟩) fun _ _ _ => rfl
              have h1 := HRAWq.out
              have hn := HLL.out
              (try rw [hn] at h1)
              (try rw [hn] at h2)
              (try rw [hn] at hown5)
              (try rw [hn] at hgrow5)
              (try rw [hn] at hlies5)
              (try rw [hn])
              exact rowat_push h1 h2 hgrow5 hlies5 hown5)
            have hown4 := HOWNq.out
            have hge : ∀ k, (Value.slice a nL c).ownBlock = some k → g + 1 ≤ k := fun k hk => (hown4.lt k hk).1
            have HXq := Lib.hid (show BoxAt w5q g xa xf 2 (.slice xpa 1 xpc) xn (.slice xfa xnf xfc) from (hgrow5.block g (by rw [alloc_hs]; have := HX4.out.lt; omega) (fun e => by have := hge g e.symm; omega)).trans ((Below.heap_alloc _ _ _ HX4.out.lt).trans HX4.out))
            have HBq := Lib.hid (show Below w.heap.size w w5q from (HB4.out.alloc HB4.out.size _).grown hgrow5 (by rw [alloc_hs]; have := HB4.out.size; omega) fun k hk => by have := hge k hk; have := HG.out; omega)
            clear hge hown4 hown5 hgrow5 hlies5 hlt5
            go_wp2
            refine ⟨⟨6, L ++ [symD nVoid], some ⟨ggq, 0, none⟩, capq, by omega, by go_num, ?_, HE3, ?_, HBq, HXq⟩, ?_⟩
            · rw [List.length_append, List.length_cons, List.length_nil, ← HLL.out]
            · rw [List.length_append, List.length_cons, List.length_nil, ← HLL.out]; exact HROWq
            · simp [intOf]
      · have hj6 : j = 6 := by omega
        subst hj6
        have hL : L = ND := by rw [HE.out]; exact HNF.out
        have HL := Lib.hid hL
        have hLl : L.length ≤ 6 := by rw [HE.out]; exact HLE.out 6 (by omega)
        obtain ⟨nL, hnL⟩ : ∃ n, n = L.length := ⟨_, rfl⟩
        have HLL := Lib.hid hnL
        rw [← hnL] at hLl ⊢
        clear hnL hL hgo hj HE
        have z2 := HX.out.c2
        have z3 := HX.out.c3
        have hrlp := HROW.out
        try rw [← HLL.out] at hrlp
        have Cp := HCP.out ⟨nList1.toArray⟩ wr (by decide) HB.out (fun b => N b ∨ (Value.slice a nL c).ownBlock = some b) (fun b h => h.elim (fun h => Nat.lt_of_lt_of_le (HN.out b h) HB.out.size) (fun h => by obtain ⟨_, ho, _⟩ := hrlp; exact (ho.lt b h).2)) (fun b h => h.imp id fun h => by obtain ⟨_, ho, _⟩ := hrlp; have := (ho.lt b h).1; have := HG.out; omega)
        have HCp := Lib.hid Cp
        clear Cp hrlp
        go_wp2_with fail
        refine HCp.out.mono ?_
        rintro e w4p ⟨⟨up, rfl, hu⟩, hb4⟩
        obtain ⟨uap, unp, ucp, rfl⟩ := hu.shape
        simp only [Dat.kind, Dat.text] at hu ⊢
        have HROW4p := Lib.hid (HROW.out.below hb4)
        have HB4p := Lib.hid (HB.out.trans (hb4.mono HB.out.size))
        have HX4p := Lib.hid (HX.out.keep hb4)
        have HD4p := Lib.hid hu
        clear hb4 hu
        clear z2 z3
        obtain ⟨rso, howno, hrawo⟩ := HROW4p.out
        have hdro := HD4p.out.raw
        (try rw [← HLL.out] at howno)
        (try rw [← HLL.out] at hrawo)
        have HDRo := Lib.hid hdro
        have HRAWo := Lib.hid hrawo
        have HOWNo := Lib.hid (howno.alloc (.cells #[.int .i64 5, .string ⟨#[]⟩, .slice uap unp ucp] 39))
        have hbaseo : g + 1 ≤ w4p.heap.size := HX4p.out.lt
        have HBASEo := Lib.hid hbaseo
        clear howno hrawo hdro hbaseo
        go_wp2_with (at_builtin; refine wpList_append_lies _ rfl _ _ 37 rfl (g + 1) 39 i0 (.agg #[.int .i64 0, .string ⟨#[]⟩, .slice none 0 0]) 3 48 Tryd.underlying37 hi hz0 hz1 hz2 rfl (by decide) _ nL (dsCells rso) rfl HOWNo.out ⟨w4p.heap.size, 0, none⟩ 1 1 (dCells ⟨5, ⟨#[]⟩, .slice uap unp ucp⟩) rfl rfl (World.news_of_block (heap_alloc_new w4p _)) ?_ (by omega) ?_ ?_ ?_ (w4p.heap.size + 1) (alloc_hs _ _) ?_)
        · intro x hx; simp only [dCells, List.mem_cons, List.not_mem_nil, or_false] at hx; rcases hx with rfl | rfl | rfl <;> rfl
        · unfold maxLen; omega
        · omega
        · rw [alloc_hs]; have := HBASEo.out; omega
        intro ggo capo w5o hown5 hgrow5 hlies5 hlt5
        have HROWo := Lib.hid (show RowAt N (g + 1) w5o (.slice (some ⟨ggo, 0, none⟩) (nL + 1) capo) (L ++ [(rowD nList1 TP)]) by
          have h2 : DawOf w4p (fun b => Lo N w4p b ∧ (Value.slice a nL c).ownBlock ≠ some b) ⟨5, ⟨#[]⟩, .slice uap unp ucp⟩ (rowD nList1 TP) := HDRo.out.mono (fun b h => ⟨⟨h.1, fun e => h.2 (.inl e)⟩, fun e => h.2 (.inr e)⟩) fun _ _ _ => rfl
          have h1 := HRAWo.out
          have hn := HLL.out
          (try rw [hn] at h1)
          (try rw [hn] at h2)
          (try rw [hn] at hown5)
          (try rw [hn] at hgrow5)
          (try rw [hn] at hlies5)
          (try rw [hn])
          exact rowat_push h1 h2 hgrow5 hlies5 hown5)
        have hown4 := HOWNo.out
        have hge : ∀ k, (Value.slice a nL c).ownBlock = some k → g + 1 ≤ k := fun k hk => (hown4.lt k hk).1
        have HXo := Lib.hid (show BoxAt w5o g xa xf 2 (.slice xpa 1 xpc) xn (.slice xfa xnf xfc) from (hgrow5.block g (by rw [alloc_hs]; have := HX4p.out.lt; omega) (fun e => by have := hge g e.symm; omega)).trans ((Below.heap_alloc _ _ _ HX4p.out.lt).trans HX4p.out))
        have HBo := Lib.hid (show Below w.heap.size w w5o from (HB4p.out.alloc HB4p.out.size _).grown hgrow5 (by rw [alloc_hs]; have := HB4p.out.size; omega) fun k hk => by have := hge k hk; have := HG.out; omega)
        clear hge hown4 hown5 hgrow5 hlies5 hlt5
        have HLLo := Lib.hid (show nL + 1 = (L ++ [rowD nList1 TP]).length by rw [List.length_append, ← HLL.out]; rfl)
        have HEQ := Lib.hid (show ND ++ PD = (L ++ [rowD nList1 TP]) by rw [HPD'.out, HL.out])
        have z4 := HXo.out.c4
        have z5 := HXo.out.c5
        rcases HPF.out with ⟨hn0, hm0⟩ | ⟨hn1, hl1⟩ | ⟨hn2, hm2⟩
        · subst hn0
          have HFIN := Lib.hid (show ND ++ PD ++ FD = (L ++ [rowD nList1 TP]) by rw [HFD.out, HEQ.out]; simp)
          have hdn : SliceOf w5o (Lo N w5o) (.slice (some ⟨ggo, 0, none⟩) (nL + 1) capo) (ND ++ (PD ++ FD)) := by
            rw [← List.append_assoc, HFIN.out]
            have h := HROWo.out.done (fun b h => by have := HN.out b h; have := HG.out; omega) (by rw [← HLLo.out]; unfold maxLen; omega)
            first | exact h | (rw [HLLo.out]; exact h)
          have HDN := Lib.hid hdn
          clear hdn
          go_wp2
          go_ret
          exact ⟨⟨_, rfl, by first | exact HDN.out | (rw [List.append_assoc]; exact HDN.out)⟩, HBo.out⟩
        · subst hn1
          have HFD1 := Lib.hid (show FD = [rowD nArrow TF] by rw [HFD.out]; rfl)
          have hrlf := HROWo.out
          try rw [← HLLo.out] at hrlf
          have Cf := HCF.out ⟨nArrow.toArray⟩ w5o (by decide) HBo.out (fun b => N b ∨ (Value.slice (some ⟨ggo, 0, none⟩) (nL + 1) capo).ownBlock = some b) (fun b h => h.elim (fun h => Nat.lt_of_lt_of_le (HN.out b h) HBo.out.size) (fun h => by obtain ⟨_, ho, _⟩ := hrlf; exact (ho.lt b h).2)) (fun b h => h.imp id fun h => by obtain ⟨_, ho, _⟩ := hrlf; have := (ho.lt b h).1; have := HG.out; omega)
          have HCf := Lib.hid Cf
          clear Cf hrlf
          go_wp2_with fail
          refine HCf.out.mono ?_
          rintro e w4f ⟨⟨uf, rfl, hu⟩, hb4⟩
          obtain ⟨uaf, unf, ucf, rfl⟩ := hu.shape
          simp only [Dat.kind, Dat.text] at hu ⊢
          have HROW4f := Lib.hid (HROWo.out.below hb4)
          have HB4f := Lib.hid (HBo.out.trans (hb4.mono HBo.out.size))
          have HX4f := Lib.hid (HXo.out.keep hb4)
          have HD4f := Lib.hid hu
          clear hb4 hu
          obtain ⟨rsg, howng, hrawg⟩ := HROW4f.out
          have hdrg := HD4f.out.raw
          (try rw [← HLLo.out] at howng)
          (try rw [← HLLo.out] at hrawg)
          have HDRg := Lib.hid hdrg
          have HRAWg := Lib.hid hrawg
          have HOWNg := Lib.hid (howng.alloc (.cells #[.int .i64 5, .string ⟨#[]⟩, .slice uaf unf ucf] 39))
          have hbaseg : g + 1 ≤ w4f.heap.size := HX4f.out.lt
          have HBASEg := Lib.hid hbaseg
          clear howng hrawg hdrg hbaseg
          go_wp2_with (at_builtin; refine wpList_append_lies _ rfl _ _ 37 rfl (g + 1) 39 i0 (.agg #[.int .i64 0, .string ⟨#[]⟩, .slice none 0 0]) 3 48 Tryd.underlying37 hi hz0 hz1 hz2 rfl (by decide) _ (nL + 1) (dsCells rsg) rfl HOWNg.out ⟨w4f.heap.size, 0, none⟩ 1 1 (dCells ⟨5, ⟨#[]⟩, .slice uaf unf ucf⟩) rfl rfl (World.news_of_block (heap_alloc_new w4f _)) ?_ (by omega) ?_ ?_ ?_ (w4f.heap.size + 1) (alloc_hs _ _) ?_)
          · intro x hx; simp only [dCells, List.mem_cons, List.not_mem_nil, or_false] at hx; rcases hx with rfl | rfl | rfl <;> rfl
          · unfold maxLen; omega
          · omega
          · rw [alloc_hs]; have := HBASEg.out; omega
          intro ggg capg w5g hown5 hgrow5 hlies5 hlt5
          have HROWg := Lib.hid (show RowAt N (g + 1) w5g (.slice (some ⟨ggg, 0, none⟩) ((nL + 1) + 1) capg) ((L ++ [rowD nList1 TP]) ++ [(rowD nArrow TF)]) by
            have h2 : DawOf w4f (fun b => Lo N w4f b ∧ (Value.slice (some ⟨ggo, 0, none⟩) (nL + 1) capo).ownBlock ≠ some b) ⟨5, ⟨#[]⟩, .slice uaf unf ucf⟩ (rowD nArrow TF) := HDRg.out.mono (fun b h => ⟨⟨h.1, fun e => h.2 (.inl e)⟩, fun e => h.2 (.inr e)⟩) fun _ _ _ => rfl
            have h1 := HRAWg.out
            have hn := HLLo.out
            (try rw [hn] at h1)
            (try rw [hn] at h2)
            (try rw [hn] at hown5)
            (try rw [hn] at hgrow5)
            (try rw [hn] at hlies5)
            (try rw [hn])
            exact rowat_push h1 h2 hgrow5 hlies5 hown5)
          have hown4 := HOWNg.out
          have hge : ∀ k, (Value.slice (some ⟨ggo, 0, none⟩) (nL + 1) capo).ownBlock = some k → g + 1 ≤ k := fun k hk => (hown4.lt k hk).1
          have HXg := Lib.hid (show BoxAt w5g g xa xf 2 (.slice xpa 1 xpc) 1 (.slice xfa xnf xfc) from (hgrow5.block g (by rw [alloc_hs]; have := HX4f.out.lt; omega) (fun e => by have := hge g e.symm; omega)).trans ((Below.heap_alloc _ _ _ HX4f.out.lt).trans HX4f.out))
          have HBg := Lib.hid (show Below w.heap.size w w5g from (HB4f.out.alloc HB4f.out.size _).grown hgrow5 (by rw [alloc_hs]; have := HB4f.out.size; omega) fun k hk => by have := hge k hk; have := HG.out; omega)
          clear hge hown4 hown5 hgrow5 hlies5 hlt5
          have HLLg := Lib.hid (show (nL + 1) + 1 = ((L ++ [rowD nList1 TP]) ++ [rowD nArrow TF]).length by rw [List.length_append, ← HLLo.out]; rfl)
          have HFIN := Lib.hid (show ND ++ PD ++ FD = (L ++ [rowD nList1 TP]) ++ [rowD nArrow TF] by rw [HFD1.out, HEQ.out])
          have hdn : SliceOf w5g (Lo N w5g) (.slice (some ⟨ggg, 0, none⟩) ((nL + 1) + 1) capg) (ND ++ (PD ++ FD)) := by
            rw [← List.append_assoc, HFIN.out]
            have h := HROWg.out.done (fun b h => by have := HN.out b h; have := HG.out; omega) (by rw [← HLLg.out]; unfold maxLen; omega)
            first | exact h | (rw [HLLg.out]; exact h)
          have HDN := Lib.hid hdn
          clear hdn
          go_wp2
          go_ret
          exact ⟨⟨_, rfl, by first | exact HDN.out | (rw [List.append_assoc]; exact HDN.out)⟩, HBg.out⟩
        · subst hn2
          have HFD1 := Lib.hid (show FD = [symD nProc] by rw [HFD.out]; rfl)
          go_wp2_with fail
          refine (HCW.out ⟨nProc.toArray⟩ (by decide) w5o).mono ?_
          rintro e w4f ⟨rfl, hb4⟩
          have HROW4f := Lib.hid (HROWo.out.below hb4)
          have HB4f := Lib.hid (HBo.out.trans (hb4.mono HBo.out.size))
          have HX4f := Lib.hid (HXo.out.keep hb4)
          have HD4f := Lib.hid (show DatVN (fun b => N b ∨ (Value.slice (some ⟨ggo, 0, none⟩) (nL + 1) capo).ownBlock = some b) w4f (.agg #[.int .i64 1, .string ⟨nProc.toArray⟩, .slice none 0 0]) (symD nProc) from DatVN.mk (.mkNil _ _))
          clear hb4
          obtain ⟨rsg, howng, hrawg⟩ := HROW4f.out
          have hdrg := HD4f.out.raw
          (try rw [← HLLo.out] at howng)
          (try rw [← HLLo.out] at hrawg)
          have HDRg := Lib.hid hdrg
          have HRAWg := Lib.hid hrawg
          have HOWNg := Lib.hid (howng.alloc (.cells #[.int .i64 1, .string ⟨nProc.toArray⟩, .slice none 0 0] 39))
          have hbaseg : g + 1 ≤ w4f.heap.size := HX4f.out.lt
          have HBASEg := Lib.hid hbaseg
          clear howng hrawg hdrg hbaseg
          go_wp2_with (at_builtin; refine wpList_append_lies _ rfl _ _ 37 rfl (g + 1) 39 i0 (.agg #[.int .i64 0, .string ⟨#[]⟩, .slice none 0 0]) 3 48 Tryd.underlying37 hi hz0 hz1 hz2 rfl (by decide) _ (nL + 1) (dsCells rsg) rfl HOWNg.out ⟨w4f.heap.size, 0, none⟩ 1 1 (dCells ⟨1, ⟨nProc.toArray⟩, .slice none 0 0⟩) rfl rfl (World.news_of_block (heap_alloc_new w4f _)) ?_ (by omega) ?_ ?_ ?_ (w4f.heap.size + 1) (alloc_hs _ _) ?_)
          · intro x hx; simp only [dCells, List.mem_cons, List.not_mem_nil, or_false] at hx; rcases hx with rfl | rfl | rfl <;> rfl
          · unfold maxLen; omega
          · omega
          · rw [alloc_hs]; have := HBASEg.out; omega
          intro ggg capg w5g hown5 hgrow5 hlies5 hlt5
          have HROWg := Lib.hid (show RowAt N (g + 1) w5g (.slice (some ⟨ggg, 0, none⟩) ((nL + 1) + 1) capg) ((L ++ [rowD nList1 TP]) ++ [(symD nProc)]) by
            have h2 : DawOf w4f (fun b => Lo N w4f b ∧ (Value.slice (some ⟨ggo, 0, none⟩) (nL + 1) capo).ownBlock ≠ some b) ⟨1, ⟨nProc.toArray⟩, .slice none 0 0⟩ (symD nProc) := HDRg.out.mono (fun b h => ⟨⟨h.1, fun e => h.2 (.inl e)⟩, fun e => h.2 (.inr e)⟩) fun _ _ _ => rfl
            have h1 := HRAWg.out
            have hn := HLLo.out
            (try rw [hn] at h1)
            (try rw [hn] at h2)
            (try rw [hn] at hown5)
            (try rw [hn] at hgrow5)
            (try rw [hn] at hlies5)
            (try rw [hn])
            exact rowat_push h1 h2 hgrow5 hlies5 hown5)
          have hown4 := HOWNg.out
          have hge : ∀ k, (Value.slice (some ⟨ggo, 0, none⟩) (nL + 1) capo).ownBlock = some k → g + 1 ≤ k := fun k hk => (hown4.lt k hk).1
          have HXg := Lib.hid (show BoxAt w5g g xa xf 2 (.slice xpa 1 xpc) 2 (.slice xfa xnf xfc) from (hgrow5.block g (by rw [alloc_hs]; have := HX4f.out.lt; omega) (fun e => by have := hge g e.symm; omega)).trans ((Below.heap_alloc _ _ _ HX4f.out.lt).trans HX4f.out))
          have HBg := Lib.hid (show Below w.heap.size w w5g from (HB4f.out.alloc HB4f.out.size _).grown hgrow5 (by rw [alloc_hs]; have := HB4f.out.size; omega) fun k hk => by have := hge k hk; have := HG.out; omega)
          clear hge hown4 hown5 hgrow5 hlies5 hlt5
          have HLLg := Lib.hid (show (nL + 1) + 1 = ((L ++ [rowD nList1 TP]) ++ [symD nProc]).length by rw [List.length_append, ← HLLo.out]; rfl)
          have HFIN := Lib.hid (show ND ++ PD ++ FD = (L ++ [rowD nList1 TP]) ++ [symD nProc] by rw [HFD1.out, HEQ.out])
          have hdn : SliceOf w5g (Lo N w5g) (.slice (some ⟨ggg, 0, none⟩) ((nL + 1) + 1) capg) (ND ++ (PD ++ FD)) := by
            rw [← List.append_assoc, HFIN.out]
            have h := HROWg.out.done (fun b h => by have := HN.out b h; have := HG.out; omega) (by rw [← HLLg.out]; unfold maxLen; omega)
            first | exact h | (rw [HLLg.out]; exact h)
          have HDN := Lib.hid hdn
          clear hdn
          go_wp2
          go_ret
          exact ⟨⟨_, rfl, by first | exact HDN.out | (rw [List.append_assoc]; exact HDN.out)⟩, HBg.out⟩
  | true =>
    have h16 : (bits .and .i64 xf 16 != 0) = true := by rw [← hz16]; exact hb16
    have HPD' := Lib.hid (show PD = [rowD nList TP] by rw [HPD.out, hz16]; rfl)
    obtain ⟨fl, hfl⟩ : ∃ fl, bits .andNot .i64 xf 16 = fl := ⟨_, rfl⟩
    have hcl := clr_range HF0.out.1 HF0.out.2
    have HNF := Lib.hid (show namesF fl 6 = ND by rw [HND.out, ← hfl]; exact namesF_clr HF0.out.1 HF0.out.2)
    rw [hfl] at hcl
    have HBITS := Lib.hid (bits_F hcl.1 hcl.2)
    clear hb16 hz16 hcl
    have HLE := Lib.hid (namesF_le fl)
    have hb0 := HBX.out.c0
    have x1 := HBX.out.c1
    have x2 := HBX.out.c2
    have x3 := HBX.out.c3
    have x4 := HBX.out.c4
    have x5 := HBX.out.c5
    have v0 := HFN.out.2.1
    have v1 := HFN.out.2.2.1
    have v2 := HFN.out.2.2.2.1
    have v3 := HFN.out.2.2.2.2.1
    have v4 := HFN.out.2.2.2.2.2.1
    have v5 := HFN.out.2.2.2.2.2.2
    clear hb0
    go_enter Tryd.func59, Tryd.ntmps59
    go_wp2_with fail
    rw [← HG.out, ← HW.out]
    go_quiet (fail)
    go_wp2
    obtain ⟨W2, hW2⟩ : ∃ W2, W2 = W.drewN nq := ⟨_, rfl⟩
    have HB2 := Lib.hid (show Below W.heap.size W W2 by rw [hW2]; exact below_drewN (Below.refl _ _) _)
    rw [← hW2]
    clear hW2
    clear v0 v1 v2 v3 v4 v5 x1 x2 x3 x4 x5
    try clear h16
    go_loopw [5, 6, 7, 26] (fun v _ _ i wr => ∃ (j : Nat) (L : List Dat) (a : Option Addr) (c : Nat), j ≤ 6 ∧ i = .int .i64 j ∧ v = .slice a L.length c ∧ Hid (L = namesF fl j) ∧ Hid (RowAt N (g + 1) wr (.slice a L.length c) L) ∧ Hid (Below w.heap.size w wr) ∧ Hid (BoxAt wr g xa xf 2 (.slice xpa 1 xpc) xn (.slice xfa xnf xfc))) (fun _ _ _ i _ => 6 - (intOf i).toNat)
    case atStart => exact ⟨0, [], none, 0, Nat.zero_le _, rfl, rfl, Lib.hid rfl, Lib.hid RowAt.nil, Lib.hid (HBW.out.trans (HB2.out.mono HBW.out.size)), Lib.hid (HBX.out.keep HB2.out)⟩
    case round =>
      obtain ⟨j, L, a, c, hj, rfl, rfl, HE, HROW, HB, HX⟩ := hrel
      by_cases hgo : j < 6
      · have HE2 := Lib.hid (namesF_succ fl j hgo)
        rw [← HE.out] at HE2
        have HBT := Lib.hid (HBITS.out j hgo)
        have hLl : L.length ≤ 6 := by have := HLE.out j (by omega); rw [← HE.out] at this; omega
        obtain ⟨nL, hnL⟩ : ∃ n, n = L.length := ⟨_, rfl⟩
        rw [← hnL] at hLl HROW ⊢
        have HLL := Lib.hid hnL
        rw [hnL] at HROW
        clear hnL HE
        have hjc : j = 0 ∨ j = 1 ∨ j = 2 ∨ j = 3 ∨ j = 4 ∨ j = 5 := by omega
        clear hgo hj
        rcases hjc with rfl | rfl | rfl | rfl | rfl | rfl
        · have hbt : (bits .and .i64 fl 1 != 0) = bitOf fl 1 := HBT.out
          have hix := ix0
          cases hz : bitOf fl 1 with
          | false =>
            rw [hz] at hbt
            have HE3 := Lib.hid (show L = namesF fl 1 by rw [HE2.out]; show _ = L ++ (if bitOf fl 1 then _ else _); rw [hz]; simp)
            clear hz
            go_wp2
            refine ⟨⟨1, L, a, c, by omega, by go_num, by rw [HLL.out], HE3, ?_, HB, HX⟩, ?_⟩
            · exact HROW
            · simp [intOf]
          | true =>
            rw [hz] at hbt
            have HE3 := Lib.hid (show L ++ [symD nInt] = namesF fl 1 by rw [HE2.out]; show _ = L ++ (if bitOf fl 1 then _ else _); rw [hz]; rfl)
            clear hz
            go_wp2_with fail
            refine (HCW.out ⟨nInt.toArray⟩ (by decide) wr).mono ?_
            rintro e w4 ⟨rfl, hb4⟩
            have HROW4 := Lib.hid (HROW.out.below hb4)
            have HB4 := Lib.hid (HB.out.trans (hb4.mono HB.out.size))
            have HX4 := Lib.hid (HX.out.keep hb4)
            have HD4 := Lib.hid (show DatVN (fun b => N b ∨ (Value.slice a nL c).ownBlock = some b) w4 (.agg #[.int .i64 1, .string ⟨nInt.toArray⟩, .slice none 0 0]) (symD nInt) from DatVN.mk (.mkNil _ _))
            clear hb4
            obtain ⟨rsq, hownq, hrawq⟩ := HROW4.out
            have hdrq := HD4.out.raw
            (try rw [← HLL.out] at hownq)
            (try rw [← HLL.out] at hrawq)
            have HDRq := Lib.hid hdrq
            have HRAWq := Lib.hid hrawq
            have HOWNq := Lib.hid (hownq.alloc (.cells #[.int .i64 1, .string ⟨nInt.toArray⟩, .slice none 0 0] 39))
            have hbaseq : g + 1 ≤ w4.heap.size := HX4.out.lt
            have HBASEq := Lib.hid hbaseq
            clear hownq hrawq hdrq hbaseq
            go_wp2_with (at_builtin; refine wpList_append_lies _ rfl _ _ 37 rfl (g + 1) 39 i0 (.agg #[.int .i64 0, .string ⟨#[]⟩, .slice none 0 0]) 3 48 Tryd.underlying37 hi hz0 hz1 hz2 rfl (by decide) _ nL (dsCells rsq) rfl HOWNq.out ⟨w4.heap.size, 0, none⟩ 1 1 (dCells ⟨1, ⟨nInt.toArray⟩, .slice none 0 0⟩) rfl rfl (World.news_of_block (heap_alloc_new w4 _)) ?_ (by omega) ?_ ?_ ?_ (w4.heap.size + 1) (alloc_hs _ _) ?_)
            · intro x hx; simp only [dCells, List.mem_cons, List.not_mem_nil, or_false] at hx; rcases hx with rfl | rfl | rfl <;> rfl
            · unfold maxLen; omega
            · omega
            · rw [alloc_hs]; have := HBASEq.out; omega
            intro ggq capq w5q hown5 hgrow5 hlies5 hlt5
            have HROWq := Lib.hid (show RowAt N (g + 1) w5q (.slice (some ⟨ggq, 0, none⟩) (nL + 1) capq) (L ++ [(symD nInt)]) by
              have h2 : DawOf w4 (fun b => Lo N w4 b ∧ (Value.slice a nL c).ownBlock ≠ some b) ⟨1, ⟨nInt.toArray⟩, .slice none 0 0⟩ (symD nInt) := HDRq.out.mono (fun b h => ⟨⟨h.1, fun e => h.2 (.inl e)⟩, fun e => h.2 (.inr e)⟩) fun _ _ _ => rfl
              have h1 := HRAWq.out
              have hn := HLL.out
              (try rw [hn] at h1)
              (try rw [hn] at h2)
              (try rw [hn] at hown5)
              (try rw [hn] at hgrow5)
              (try rw [hn] at hlies5)
              (try rw [hn])
              exact rowat_push h1 h2 hgrow5 hlies5 hown5)
            have hown4 := HOWNq.out
            have hge : ∀ k, (Value.slice a nL c).ownBlock = some k → g + 1 ≤ k := fun k hk => (hown4.lt k hk).1
            have HXq := Lib.hid (show BoxAt w5q g xa xf 2 (.slice xpa 1 xpc) xn (.slice xfa xnf xfc) from (hgrow5.block g (by rw [alloc_hs]; have := HX4.out.lt; omega) (fun e => by have := hge g e.symm; omega)).trans ((Below.heap_alloc _ _ _ HX4.out.lt).trans HX4.out))
            have HBq := Lib.hid (show Below w.heap.size w w5q from (HB4.out.alloc HB4.out.size _).grown hgrow5 (by rw [alloc_hs]; have := HB4.out.size; omega) fun k hk => by have := hge k hk; have := HG.out; omega)
            clear hge hown4 hown5 hgrow5 hlies5 hlt5
            go_wp2
            refine ⟨⟨1, L ++ [symD nInt], some ⟨ggq, 0, none⟩, capq, by omega, by go_num, ?_, HE3, ?_, HBq, HXq⟩, ?_⟩
            · rw [List.length_append, List.length_cons, List.length_nil, ← HLL.out]
            · rw [List.length_append, List.length_cons, List.length_nil, ← HLL.out]; exact HROWq
            · simp [intOf]
        · have hbt : (bits .and .i64 fl 2 != 0) = bitOf fl 2 := HBT.out
          have hix := ix1
          cases hz : bitOf fl 2 with
          | false =>
            rw [hz] at hbt
            have HE3 := Lib.hid (show L = namesF fl 2 by rw [HE2.out]; show _ = L ++ (if bitOf fl 2 then _ else _); rw [hz]; simp)
            clear hz
            go_wp2
            refine ⟨⟨2, L, a, c, by omega, by go_num, by rw [HLL.out], HE3, ?_, HB, HX⟩, ?_⟩
            · exact HROW
            · simp [intOf]
          | true =>
            rw [hz] at hbt
            have HE3 := Lib.hid (show L ++ [symD nBool] = namesF fl 2 by rw [HE2.out]; show _ = L ++ (if bitOf fl 2 then _ else _); rw [hz]; rfl)
            clear hz
            go_wp2_with fail
            refine (HCW.out ⟨nBool.toArray⟩ (by decide) wr).mono ?_
            rintro e w4 ⟨rfl, hb4⟩
            have HROW4 := Lib.hid (HROW.out.below hb4)
            have HB4 := Lib.hid (HB.out.trans (hb4.mono HB.out.size))
            have HX4 := Lib.hid (HX.out.keep hb4)
            have HD4 := Lib.hid (show DatVN (fun b => N b ∨ (Value.slice a nL c).ownBlock = some b) w4 (.agg #[.int .i64 1, .string ⟨nBool.toArray⟩, .slice none 0 0]) (symD nBool) from DatVN.mk (.mkNil _ _))
            clear hb4
            obtain ⟨rsq, hownq, hrawq⟩ := HROW4.out
            have hdrq := HD4.out.raw
            (try rw [← HLL.out] at hownq)
            (try rw [← HLL.out] at hrawq)
            have HDRq := Lib.hid hdrq
            have HRAWq := Lib.hid hrawq
            have HOWNq := Lib.hid (hownq.alloc (.cells #[.int .i64 1, .string ⟨nBool.toArray⟩, .slice none 0 0] 39))
            have hbaseq : g + 1 ≤ w4.heap.size := HX4.out.lt
            have HBASEq := Lib.hid hbaseq
            clear hownq hrawq hdrq hbaseq
            go_wp2_with (at_builtin; refine wpList_append_lies _ rfl _ _ 37 rfl (g + 1) 39 i0 (.agg #[.int .i64 0, .string ⟨#[]⟩, .slice none 0 0]) 3 48 Tryd.underlying37 hi hz0 hz1 hz2 rfl (by decide) _ nL (dsCells rsq) rfl HOWNq.out ⟨w4.heap.size, 0, none⟩ 1 1 (dCells ⟨1, ⟨nBool.toArray⟩, .slice none 0 0⟩) rfl rfl (World.news_of_block (heap_alloc_new w4 _)) ?_ (by omega) ?_ ?_ ?_ (w4.heap.size + 1) (alloc_hs _ _) ?_)
            · intro x hx; simp only [dCells, List.mem_cons, List.not_mem_nil, or_false] at hx; rcases hx with rfl | rfl | rfl <;> rfl
            · unfold maxLen; omega
            · omega
            · rw [alloc_hs]; have := HBASEq.out; omega
            intro ggq capq w5q hown5 hgrow5 hlies5 hlt5
            have HROWq := Lib.hid (show RowAt N (g + 1) w5q (.slice (some ⟨ggq, 0, none⟩) (nL + 1) capq) (L ++ [(symD nBool)]) by
              have h2 : DawOf w4 (fun b => Lo N w4 b ∧ (Value.slice a nL c).ownBlock ≠ some b) ⟨1, ⟨nBool.toArray⟩, .slice none 0 0⟩ (symD nBool) := HDRq.out.mono (fun b h => ⟨⟨h.1, fun e => h.2 (.inl e)⟩, fun e => h.2 (.inr e)⟩) fun _ _ _ => rfl
              have h1 := HRAWq.out
              have hn := HLL.out
              (try rw [hn] at h1)
              (try rw [hn] at h2)
              (try rw [hn] at hown5)
              (try rw [hn] at hgrow5)
              (try rw [hn] at hlies5)
              (try rw [hn])
              exact rowat_push h1 h2 hgrow5 hlies5 hown5)
            have hown4 := HOWNq.out
            have hge : ∀ k, (Value.slice a nL c).ownBlock = some k → g + 1 ≤ k := fun k hk => (hown4.lt k hk).1
            have HXq := Lib.hid (show BoxAt w5q g xa xf 2 (.slice xpa 1 xpc) xn (.slice xfa xnf xfc) from (hgrow5.block g (by rw [alloc_hs]; have := HX4.out.lt; omega) (fun e => by have := hge g e.symm; omega)).trans ((Below.heap_alloc _ _ _ HX4.out.lt).trans HX4.out))
            have HBq := Lib.hid (show Below w.heap.size w w5q from (HB4.out.alloc HB4.out.size _).grown hgrow5 (by rw [alloc_hs]; have := HB4.out.size; omega) fun k hk => by have := hge k hk; have := HG.out; omega)
            clear hge hown4 hown5 hgrow5 hlies5 hlt5
            go_wp2
            refine ⟨⟨2, L ++ [symD nBool], some ⟨ggq, 0, none⟩, capq, by omega, by go_num, ?_, HE3, ?_, HBq, HXq⟩, ?_⟩
            · rw [List.length_append, List.length_cons, List.length_nil, ← HLL.out]
            · rw [List.length_append, List.length_cons, List.length_nil, ← HLL.out]; exact HROWq
            · simp [intOf]
        · have hbt : (bits .and .i64 fl 4 != 0) = bitOf fl 4 := HBT.out
          have hix := ix2
          cases hz : bitOf fl 4 with
          | false =>
            rw [hz] at hbt
            have HE3 := Lib.hid (show L = namesF fl 3 by rw [HE2.out]; show _ = L ++ (if bitOf fl 4 then _ else _); rw [hz]; simp)
            clear hz
            go_wp2
            refine ⟨⟨3, L, a, c, by omega, by go_num, by rw [HLL.out], HE3, ?_, HB, HX⟩, ?_⟩
            · exact HROW
            · simp [intOf]
          | true =>
            rw [hz] at hbt
            have HE3 := Lib.hid (show L ++ [symD nStr] = namesF fl 3 by rw [HE2.out]; show _ = L ++ (if bitOf fl 4 then _ else _); rw [hz]; rfl)
            clear hz
            go_wp2_with fail
            refine (HCW.out ⟨nStr.toArray⟩ (by decide) wr).mono ?_
            rintro e w4 ⟨rfl, hb4⟩
            have HROW4 := Lib.hid (HROW.out.below hb4)
            have HB4 := Lib.hid (HB.out.trans (hb4.mono HB.out.size))
            have HX4 := Lib.hid (HX.out.keep hb4)
            have HD4 := Lib.hid (show DatVN (fun b => N b ∨ (Value.slice a nL c).ownBlock = some b) w4 (.agg #[.int .i64 1, .string ⟨nStr.toArray⟩, .slice none 0 0]) (symD nStr) from DatVN.mk (.mkNil _ _))
            clear hb4
            obtain ⟨rsq, hownq, hrawq⟩ := HROW4.out
            have hdrq := HD4.out.raw
            (try rw [← HLL.out] at hownq)
            (try rw [← HLL.out] at hrawq)
            have HDRq := Lib.hid hdrq
            have HRAWq := Lib.hid hrawq
            have HOWNq := Lib.hid (hownq.alloc (.cells #[.int .i64 1, .string ⟨nStr.toArray⟩, .slice none 0 0] 39))
            have hbaseq : g + 1 ≤ w4.heap.size := HX4.out.lt
            have HBASEq := Lib.hid hbaseq
            clear hownq hrawq hdrq hbaseq
            go_wp2_with (at_builtin; refine wpList_append_lies _ rfl _ _ 37 rfl (g + 1) 39 i0 (.agg #[.int .i64 0, .string ⟨#[]⟩, .slice none 0 0]) 3 48 Tryd.underlying37 hi hz0 hz1 hz2 rfl (by decide) _ nL (dsCells rsq) rfl HOWNq.out ⟨w4.heap.size, 0, none⟩ 1 1 (dCells ⟨1, ⟨nStr.toArray⟩, .slice none 0 0⟩) rfl rfl (World.news_of_block (heap_alloc_new w4 _)) ?_ (by omega) ?_ ?_ ?_ (w4.heap.size + 1) (alloc_hs _ _) ?_)
            · intro x hx; simp only [dCells, List.mem_cons, List.not_mem_nil, or_false] at hx; rcases hx with rfl | rfl | rfl <;> rfl
            · unfold maxLen; omega
            · omega
            · rw [alloc_hs]; have := HBASEq.out; omega
            intro ggq capq w5q hown5 hgrow5 hlies5 hlt5
            have HROWq := Lib.hid (show RowAt N (g + 1) w5q (.slice (some ⟨ggq, 0, none⟩) (nL + 1) capq) (L ++ [(symD nStr)]) by
              have h2 : DawOf w4 (fun b => Lo N w4 b ∧ (Value.slice a nL c).ownBlock ≠ some b) ⟨1, ⟨nStr.toArray⟩, .slice none 0 0⟩ (symD nStr) := HDRq.out.mono (fun b h => ⟨⟨h.1, fun e => h.2 (.inl e)⟩, fun e => h.2 (.inr e)⟩) fun _ _ _ => rfl
              have h1 := HRAWq.out
              have hn := HLL.out
              (try rw [hn] at h1)
              (try rw [hn] at h2)
              (try rw [hn] at hown5)
              (try rw [hn] at hgrow5)
              (try rw [hn] at hlies5)
              (try rw [hn])
              exact rowat_push h1 h2 hgrow5 hlies5 hown5)
            have hown4 := HOWNq.out
            have hge : ∀ k, (Value.slice a nL c).ownBlock = some k → g + 1 ≤ k := fun k hk => (hown4.lt k hk).1
            have HXq := Lib.hid (show BoxAt w5q g xa xf 2 (.slice xpa 1 xpc) xn (.slice xfa xnf xfc) from (hgrow5.block g (by rw [alloc_hs]; have := HX4.out.lt; omega) (fun e => by have := hge g e.symm; omega)).trans ((Below.heap_alloc _ _ _ HX4.out.lt).trans HX4.out))
            have HBq := Lib.hid (show Below w.heap.size w w5q from (HB4.out.alloc HB4.out.size _).grown hgrow5 (by rw [alloc_hs]; have := HB4.out.size; omega) fun k hk => by have := hge k hk; have := HG.out; omega)
            clear hge hown4 hown5 hgrow5 hlies5 hlt5
            go_wp2
            refine ⟨⟨3, L ++ [symD nStr], some ⟨ggq, 0, none⟩, capq, by omega, by go_num, ?_, HE3, ?_, HBq, HXq⟩, ?_⟩
            · rw [List.length_append, List.length_cons, List.length_nil, ← HLL.out]
            · rw [List.length_append, List.length_cons, List.length_nil, ← HLL.out]; exact HROWq
            · simp [intOf]
        · have hbt : (bits .and .i64 fl 8 != 0) = bitOf fl 8 := HBT.out
          have hix := ix3
          cases hz : bitOf fl 8 with
          | false =>
            rw [hz] at hbt
            have HE3 := Lib.hid (show L = namesF fl 4 by rw [HE2.out]; show _ = L ++ (if bitOf fl 8 then _ else _); rw [hz]; simp)
            clear hz
            go_wp2
            refine ⟨⟨4, L, a, c, by omega, by go_num, by rw [HLL.out], HE3, ?_, HB, HX⟩, ?_⟩
            · exact HROW
            · simp [intOf]
          | true =>
            rw [hz] at hbt
            have HE3 := Lib.hid (show L ++ [symD nSym] = namesF fl 4 by rw [HE2.out]; show _ = L ++ (if bitOf fl 8 then _ else _); rw [hz]; rfl)
            clear hz
            go_wp2_with fail
            refine (HCW.out ⟨nSym.toArray⟩ (by decide) wr).mono ?_
            rintro e w4 ⟨rfl, hb4⟩
            have HROW4 := Lib.hid (HROW.out.below hb4)
            have HB4 := Lib.hid (HB.out.trans (hb4.mono HB.out.size))
            have HX4 := Lib.hid (HX.out.keep hb4)
            have HD4 := Lib.hid (show DatVN (fun b => N b ∨ (Value.slice a nL c).ownBlock = some b) w4 (.agg #[.int .i64 1, .string ⟨nSym.toArray⟩, .slice none 0 0]) (symD nSym) from DatVN.mk (.mkNil _ _))
            clear hb4
            obtain ⟨rsq, hownq, hrawq⟩ := HROW4.out
            have hdrq := HD4.out.raw
            (try rw [← HLL.out] at hownq)
            (try rw [← HLL.out] at hrawq)
            have HDRq := Lib.hid hdrq
            have HRAWq := Lib.hid hrawq
            have HOWNq := Lib.hid (hownq.alloc (.cells #[.int .i64 1, .string ⟨nSym.toArray⟩, .slice none 0 0] 39))
            have hbaseq : g + 1 ≤ w4.heap.size := HX4.out.lt
            have HBASEq := Lib.hid hbaseq
            clear hownq hrawq hdrq hbaseq
            go_wp2_with (at_builtin; refine wpList_append_lies _ rfl _ _ 37 rfl (g + 1) 39 i0 (.agg #[.int .i64 0, .string ⟨#[]⟩, .slice none 0 0]) 3 48 Tryd.underlying37 hi hz0 hz1 hz2 rfl (by decide) _ nL (dsCells rsq) rfl HOWNq.out ⟨w4.heap.size, 0, none⟩ 1 1 (dCells ⟨1, ⟨nSym.toArray⟩, .slice none 0 0⟩) rfl rfl (World.news_of_block (heap_alloc_new w4 _)) ?_ (by omega) ?_ ?_ ?_ (w4.heap.size + 1) (alloc_hs _ _) ?_)
            · intro x hx; simp only [dCells, List.mem_cons, List.not_mem_nil, or_false] at hx; rcases hx with rfl | rfl | rfl <;> rfl
            · unfold maxLen; omega
            · omega
            · rw [alloc_hs]; have := HBASEq.out; omega
            intro ggq capq w5q hown5 hgrow5 hlies5 hlt5
            have HROWq := Lib.hid (show RowAt N (g + 1) w5q (.slice (some ⟨ggq, 0, none⟩) (nL + 1) capq) (L ++ [(symD nSym)]) by
              have h2 : DawOf w4 (fun b => Lo N w4 b ∧ (Value.slice a nL c).ownBlock ≠ some b) ⟨1, ⟨nSym.toArray⟩, .slice none 0 0⟩ (symD nSym) := HDRq.out.mono (fun b h => ⟨⟨h.1, fun e => h.2 (.inl e)⟩, fun e => h.2 (.inr e)⟩) fun _ _ _ => rfl
              have h1 := HRAWq.out
              have hn := HLL.out
              (try rw [hn] at h1)
              (try rw [hn] at h2)
              (try rw [hn] at hown5)
              (try rw [hn] at hgrow5)
              (try rw [hn] at hlies5)
              (try rw [hn])
              exact rowat_push h1 h2 hgrow5 hlies5 hown5)
            have hown4 := HOWNq.out
            have hge : ∀ k, (Value.slice a nL c).ownBlock = some k → g + 1 ≤ k := fun k hk => (hown4.lt k hk).1
            have HXq := Lib.hid (show BoxAt w5q g xa xf 2 (.slice xpa 1 xpc) xn (.slice xfa xnf xfc) from (hgrow5.block g (by rw [alloc_hs]; have := HX4.out.lt; omega) (fun e => by have := hge g e.symm; omega)).trans ((Below.heap_alloc _ _ _ HX4.out.lt).trans HX4.out))
            have HBq := Lib.hid (show Below w.heap.size w w5q from (HB4.out.alloc HB4.out.size _).grown hgrow5 (by rw [alloc_hs]; have := HB4.out.size; omega) fun k hk => by have := hge k hk; have := HG.out; omega)
            clear hge hown4 hown5 hgrow5 hlies5 hlt5
            go_wp2
            refine ⟨⟨4, L ++ [symD nSym], some ⟨ggq, 0, none⟩, capq, by omega, by go_num, ?_, HE3, ?_, HBq, HXq⟩, ?_⟩
            · rw [List.length_append, List.length_cons, List.length_nil, ← HLL.out]
            · rw [List.length_append, List.length_cons, List.length_nil, ← HLL.out]; exact HROWq
            · simp [intOf]
        · have hbt : (bits .and .i64 fl 16 != 0) = bitOf fl 16 := HBT.out
          have hix := ix4
          cases hz : bitOf fl 16 with
          | false =>
            rw [hz] at hbt
            have HE3 := Lib.hid (show L = namesF fl 5 by rw [HE2.out]; show _ = L ++ (if bitOf fl 16 then _ else _); rw [hz]; simp)
            clear hz
            go_wp2
            refine ⟨⟨5, L, a, c, by omega, by go_num, by rw [HLL.out], HE3, ?_, HB, HX⟩, ?_⟩
            · exact HROW
            · simp [intOf]
          | true =>
            rw [hz] at hbt
            have HE3 := Lib.hid (show L ++ [symD nNull] = namesF fl 5 by rw [HE2.out]; show _ = L ++ (if bitOf fl 16 then _ else _); rw [hz]; rfl)
            clear hz
            go_wp2_with fail
            refine (HCW.out ⟨nNull.toArray⟩ (by decide) wr).mono ?_
            rintro e w4 ⟨rfl, hb4⟩
            have HROW4 := Lib.hid (HROW.out.below hb4)
            have HB4 := Lib.hid (HB.out.trans (hb4.mono HB.out.size))
            have HX4 := Lib.hid (HX.out.keep hb4)
            have HD4 := Lib.hid (show DatVN (fun b => N b ∨ (Value.slice a nL c).ownBlock = some b) w4 (.agg #[.int .i64 1, .string ⟨nNull.toArray⟩, .slice none 0 0]) (symD nNull) from DatVN.mk (.mkNil _ _))
            clear hb4
            obtain ⟨rsq, hownq, hrawq⟩ := HROW4.out
            have hdrq := HD4.out.raw
            (try rw [← HLL.out] at hownq)
            (try rw [← HLL.out] at hrawq)
            have HDRq := Lib.hid hdrq
            have HRAWq := Lib.hid hrawq
            have HOWNq := Lib.hid (hownq.alloc (.cells #[.int .i64 1, .string ⟨nNull.toArray⟩, .slice none 0 0] 39))
            have hbaseq : g + 1 ≤ w4.heap.size := HX4.out.lt
            have HBASEq := Lib.hid hbaseq
            clear hownq hrawq hdrq hbaseq
            go_wp2_with (at_builtin; refine wpList_append_lies _ rfl _ _ 37 rfl (g + 1) 39 i0 (.agg #[.int .i64 0, .string ⟨#[]⟩, .slice none 0 0]) 3 48 Tryd.underlying37 hi hz0 hz1 hz2 rfl (by decide) _ nL (dsCells rsq) rfl HOWNq.out ⟨w4.heap.size, 0, none⟩ 1 1 (dCells ⟨1, ⟨nNull.toArray⟩, .slice none 0 0⟩) rfl rfl (World.news_of_block (heap_alloc_new w4 _)) ?_ (by omega) ?_ ?_ ?_ (w4.heap.size + 1) (alloc_hs _ _) ?_)
            · intro x hx; simp only [dCells, List.mem_cons, List.not_mem_nil, or_false] at hx; rcases hx with rfl | rfl | rfl <;> rfl
            · unfold maxLen; omega
            · omega
            · rw [alloc_hs]; have := HBASEq.out; omega
            intro ggq capq w5q hown5 hgrow5 hlies5 hlt5
            have HROWq := Lib.hid (show RowAt N (g + 1) w5q (.slice (some ⟨ggq, 0, none⟩) (nL + 1) capq) (L ++ [(symD nNull)]) by
              have h2 : DawOf w4 (fun b => Lo N w4 b ∧ (Value.slice a nL c).ownBlock ≠ some b) ⟨1, ⟨nNull.toArray⟩, .slice none 0 0⟩ (symD nNull) := HDRq.out.mono (fun b h => ⟨⟨h.1, fun e => h.2 (.inl e)⟩, fun e => h.2 (.inr e)⟩) fun _ _ _ => rfl
              have h1 := HRAWq.out
              have hn := HLL.out
              (try rw [hn] at h1)
              (try rw [hn] at h2)
              (try rw [hn] at hown5)
              (try rw [hn] at hgrow5)
              (try rw [hn] at hlies5)
              (try rw [hn])
              exact rowat_push h1 h2 hgrow5 hlies5 hown5)
            have hown4 := HOWNq.out
            have hge : ∀ k, (Value.slice a nL c).ownBlock = some k → g + 1 ≤ k := fun k hk => (hown4.lt k hk).1
            have HXq := Lib.hid (show BoxAt w5q g xa xf 2 (.slice xpa 1 xpc) xn (.slice xfa xnf xfc) from (hgrow5.block g (by rw [alloc_hs]; have := HX4.out.lt; omega) (fun e => by have := hge g e.symm; omega)).trans ((Below.heap_alloc _ _ _ HX4.out.lt).trans HX4.out))
            have HBq := Lib.hid (show Below w.heap.size w w5q from (HB4.out.alloc HB4.out.size _).grown hgrow5 (by rw [alloc_hs]; have := HB4.out.size; omega) fun k hk => by have := hge k hk; have := HG.out; omega)
            clear hge hown4 hown5 hgrow5 hlies5 hlt5
            go_wp2
            refine ⟨⟨5, L ++ [symD nNull], some ⟨ggq, 0, none⟩, capq, by omega, by go_num, ?_, HE3, ?_, HBq, HXq⟩, ?_⟩
            · rw [List.length_append, List.length_cons, List.length_nil, ← HLL.out]
            · rw [List.length_append, List.length_cons, List.length_nil, ← HLL.out]; exact HROWq
            · simp [intOf]
        · have hbt : (bits .and .i64 fl 32 != 0) = bitOf fl 32 := HBT.out
          have hix := ix5
          cases hz : bitOf fl 32 with
          | false =>
            rw [hz] at hbt
            have HE3 := Lib.hid (show L = namesF fl 6 by rw [HE2.out]; show _ = L ++ (if bitOf fl 32 then _ else _); rw [hz]; simp)
            clear hz
            go_wp2
            refine ⟨⟨6, L, a, c, by omega, by go_num, by rw [HLL.out], HE3, ?_, HB, HX⟩, ?_⟩
            · exact HROW
            · simp [intOf]
          | true =>
            rw [hz] at hbt
            have HE3 := Lib.hid (show L ++ [symD nVoid] = namesF fl 6 by rw [HE2.out]; show _ = L ++ (if bitOf fl 32 then _ else _); rw [hz]; rfl)
            clear hz
            go_wp2_with fail
            refine (HCW.out ⟨nVoid.toArray⟩ (by decide) wr).mono ?_
            rintro e w4 ⟨rfl, hb4⟩
            have HROW4 := Lib.hid (HROW.out.below hb4)
            have HB4 := Lib.hid (HB.out.trans (hb4.mono HB.out.size))
            have HX4 := Lib.hid (HX.out.keep hb4)
            have HD4 := Lib.hid (show DatVN (fun b => N b ∨ (Value.slice a nL c).ownBlock = some b) w4 (.agg #[.int .i64 1, .string ⟨nVoid.toArray⟩, .slice none 0 0]) (symD nVoid) from DatVN.mk (.mkNil _ _))
            clear hb4
            obtain ⟨rsq, hownq, hrawq⟩ := HROW4.out
            have hdrq := HD4.out.raw
            (try rw [← HLL.out] at hownq)
            (try rw [← HLL.out] at hrawq)
            have HDRq := Lib.hid hdrq
            have HRAWq := Lib.hid hrawq
            have HOWNq := Lib.hid (hownq.alloc (.cells #[.int .i64 1, .string ⟨nVoid.toArray⟩, .slice none 0 0] 39))
            have hbaseq : g + 1 ≤ w4.heap.size := HX4.out.lt
            have HBASEq := Lib.hid hbaseq
            clear hownq hrawq hdrq hbaseq
            go_wp2_with (at_builtin; refine wpList_append_lies _ rfl _ _ 37 rfl (g + 1) 39 i0 (.agg #[.int .i64 0, .string ⟨#[]⟩, .slice none 0 0]) 3 48 Tryd.underlying37 hi hz0 hz1 hz2 rfl (by decide) _ nL (dsCells rsq) rfl HOWNq.out ⟨w4.heap.size, 0, none⟩ 1 1 (dCells ⟨1, ⟨nVoid.toArray⟩, .slice none 0 0⟩) rfl rfl (World.news_of_block (heap_alloc_new w4 _)) ?_ (by omega) ?_ ?_ ?_ (w4.heap.size + 1) (alloc_hs _ _) ?_)
            · intro x hx; simp only [dCells, List.mem_cons, List.not_mem_nil, or_false] at hx; rcases hx with rfl | rfl | rfl <;> rfl
            · unfold maxLen; omega
            · omega
            · rw [alloc_hs]; have := HBASEq.out; omega
            intro ggq capq w5q hown5 hgrow5 hlies5 hlt5
            have HROWq := Lib.hid (show RowAt N (g + 1) w5q (.slice (some ⟨ggq, 0, none⟩) (nL + 1) capq) (L ++ [(symD nVoid)]) by
              have h2 : DawOf w4 (fun b => Lo N w4 b ∧ (Value.slice a nL c).ownBlock ≠ some b) ⟨1, ⟨nVoid.toArray⟩, .slice none 0 0⟩ (symD nVoid) := HDRq.out.mono (fun b h => ⟨⟨h.1, fun e => h.2 (.inl e)⟩, fun e => h.2 (.inr e)⟩) fun _ _ _ => rfl
              have h1 := HRAWq.out
              have hn := HLL.out
              (try rw [hn] at h1)
              (try rw [hn] at h2)
              (try rw [hn] at hown5)
              (try rw [hn] at hgrow5)
              (try rw [hn] at hlies5)
              (try rw [hn])
              exact rowat_push h1 h2 hgrow5 hlies5 hown5)
            have hown4 := HOWNq.out
            have hge : ∀ k, (Value.slice a nL c).ownBlock = some k → g + 1 ≤ k := fun k hk => (hown4.lt k hk).1
            have HXq := Lib.hid (show BoxAt w5q g xa xf 2 (.slice xpa 1 xpc) xn (.slice xfa xnf xfc) from (hgrow5.block g (by rw [alloc_hs]; have := HX4.out.lt; omega) (fun e => by have := hge g e.symm; omega)).trans ((Below.heap_alloc _ _ _ HX4.out.lt).trans HX4.out))
            have HBq := Lib.hid (show Below w.heap.size w w5q from (HB4.out.alloc HB4.out.size _).grown hgrow5 (by rw [alloc_hs]; have := HB4.out.size; omega) fun k hk => by have := hge k hk; have := HG.out; omega)
            clear hge hown4 hown5 hgrow5 hlies5 hlt5
            go_wp2
            refine ⟨⟨6, L ++ [symD nVoid], some ⟨ggq, 0, none⟩, capq, by omega, by go_num, ?_, HE3, ?_, HBq, HXq⟩, ?_⟩
            · rw [List.length_append, List.length_cons, List.length_nil, ← HLL.out]
            · rw [List.length_append, List.length_cons, List.length_nil, ← HLL.out]; exact HROWq
            · simp [intOf]
      · have hj6 : j = 6 := by omega
        subst hj6
        have hL : L = ND := by rw [HE.out]; exact HNF.out
        have HL := Lib.hid hL
        have hLl : L.length ≤ 6 := by rw [HE.out]; exact HLE.out 6 (by omega)
        obtain ⟨nL, hnL⟩ : ∃ n, n = L.length := ⟨_, rfl⟩
        have HLL := Lib.hid hnL
        rw [← hnL] at hLl ⊢
        clear hnL hL hgo hj HE
        have z2 := HX.out.c2
        have z3 := HX.out.c3
        have hrlp := HROW.out
        try rw [← HLL.out] at hrlp
        have Cp := HCP.out ⟨nList.toArray⟩ wr (by decide) HB.out (fun b => N b ∨ (Value.slice a nL c).ownBlock = some b) (fun b h => h.elim (fun h => Nat.lt_of_lt_of_le (HN.out b h) HB.out.size) (fun h => by obtain ⟨_, ho, _⟩ := hrlp; exact (ho.lt b h).2)) (fun b h => h.imp id fun h => by obtain ⟨_, ho, _⟩ := hrlp; have := (ho.lt b h).1; have := HG.out; omega)
        have HCp := Lib.hid Cp
        clear Cp hrlp
        go_wp2_with fail
        refine HCp.out.mono ?_
        rintro e w4p ⟨⟨up, rfl, hu⟩, hb4⟩
        obtain ⟨uap, unp, ucp, rfl⟩ := hu.shape
        simp only [Dat.kind, Dat.text] at hu ⊢
        have HROW4p := Lib.hid (HROW.out.below hb4)
        have HB4p := Lib.hid (HB.out.trans (hb4.mono HB.out.size))
        have HX4p := Lib.hid (HX.out.keep hb4)
        have HD4p := Lib.hid hu
        clear hb4 hu
        clear z2 z3
        obtain ⟨rso, howno, hrawo⟩ := HROW4p.out
        have hdro := HD4p.out.raw
        (try rw [← HLL.out] at howno)
        (try rw [← HLL.out] at hrawo)
        have HDRo := Lib.hid hdro
        have HRAWo := Lib.hid hrawo
        have HOWNo := Lib.hid (howno.alloc (.cells #[.int .i64 5, .string ⟨#[]⟩, .slice uap unp ucp] 39))
        have hbaseo : g + 1 ≤ w4p.heap.size := HX4p.out.lt
        have HBASEo := Lib.hid hbaseo
        clear howno hrawo hdro hbaseo
        go_wp2_with (at_builtin; refine wpList_append_lies _ rfl _ _ 37 rfl (g + 1) 39 i0 (.agg #[.int .i64 0, .string ⟨#[]⟩, .slice none 0 0]) 3 48 Tryd.underlying37 hi hz0 hz1 hz2 rfl (by decide) _ nL (dsCells rso) rfl HOWNo.out ⟨w4p.heap.size, 0, none⟩ 1 1 (dCells ⟨5, ⟨#[]⟩, .slice uap unp ucp⟩) rfl rfl (World.news_of_block (heap_alloc_new w4p _)) ?_ (by omega) ?_ ?_ ?_ (w4p.heap.size + 1) (alloc_hs _ _) ?_)
        · intro x hx; simp only [dCells, List.mem_cons, List.not_mem_nil, or_false] at hx; rcases hx with rfl | rfl | rfl <;> rfl
        · unfold maxLen; omega
        · omega
        · rw [alloc_hs]; have := HBASEo.out; omega
        intro ggo capo w5o hown5 hgrow5 hlies5 hlt5
        have HROWo := Lib.hid (show RowAt N (g + 1) w5o (.slice (some ⟨ggo, 0, none⟩) (nL + 1) capo) (L ++ [(rowD nList TP)]) by
          have h2 : DawOf w4p (fun b => Lo N w4p b ∧ (Value.slice a nL c).ownBlock ≠ some b) ⟨5, ⟨#[]⟩, .slice uap unp ucp⟩ (rowD nList TP) := HDRo.out.mono (fun b h => ⟨⟨h.1, fun e => h.2 (.inl e)⟩, fun e => h.2 (.inr e)⟩) fun _ _ _ => rfl
          have h1 := HRAWo.out
          have hn := HLL.out
          (try rw [hn] at h1)
          (try rw [hn] at h2)
          (try rw [hn] at hown5)
          (try rw [hn] at hgrow5)
          (try rw [hn] at hlies5)
          (try rw [hn])
          exact rowat_push h1 h2 hgrow5 hlies5 hown5)
        have hown4 := HOWNo.out
        have hge : ∀ k, (Value.slice a nL c).ownBlock = some k → g + 1 ≤ k := fun k hk => (hown4.lt k hk).1
        have HXo := Lib.hid (show BoxAt w5o g xa xf 2 (.slice xpa 1 xpc) xn (.slice xfa xnf xfc) from (hgrow5.block g (by rw [alloc_hs]; have := HX4p.out.lt; omega) (fun e => by have := hge g e.symm; omega)).trans ((Below.heap_alloc _ _ _ HX4p.out.lt).trans HX4p.out))
        have HBo := Lib.hid (show Below w.heap.size w w5o from (HB4p.out.alloc HB4p.out.size _).grown hgrow5 (by rw [alloc_hs]; have := HB4p.out.size; omega) fun k hk => by have := hge k hk; have := HG.out; omega)
        clear hge hown4 hown5 hgrow5 hlies5 hlt5
        have HLLo := Lib.hid (show nL + 1 = (L ++ [rowD nList TP]).length by rw [List.length_append, ← HLL.out]; rfl)
        have HEQ := Lib.hid (show ND ++ PD = (L ++ [rowD nList TP]) by rw [HPD'.out, HL.out])
        have z4 := HXo.out.c4
        have z5 := HXo.out.c5
        rcases HPF.out with ⟨hn0, hm0⟩ | ⟨hn1, hl1⟩ | ⟨hn2, hm2⟩
        · subst hn0
          have HFIN := Lib.hid (show ND ++ PD ++ FD = (L ++ [rowD nList TP]) by rw [HFD.out, HEQ.out]; simp)
          have hdn : SliceOf w5o (Lo N w5o) (.slice (some ⟨ggo, 0, none⟩) (nL + 1) capo) (ND ++ (PD ++ FD)) := by
            rw [← List.append_assoc, HFIN.out]
            have h := HROWo.out.done (fun b h => by have := HN.out b h; have := HG.out; omega) (by rw [← HLLo.out]; unfold maxLen; omega)
            first | exact h | (rw [HLLo.out]; exact h)
          have HDN := Lib.hid hdn
          clear hdn
          go_wp2
          go_ret
          exact ⟨⟨_, rfl, by first | exact HDN.out | (rw [List.append_assoc]; exact HDN.out)⟩, HBo.out⟩
        · subst hn1
          have HFD1 := Lib.hid (show FD = [rowD nArrow TF] by rw [HFD.out]; rfl)
          have hrlf := HROWo.out
          try rw [← HLLo.out] at hrlf
          have Cf := HCF.out ⟨nArrow.toArray⟩ w5o (by decide) HBo.out (fun b => N b ∨ (Value.slice (some ⟨ggo, 0, none⟩) (nL + 1) capo).ownBlock = some b) (fun b h => h.elim (fun h => Nat.lt_of_lt_of_le (HN.out b h) HBo.out.size) (fun h => by obtain ⟨_, ho, _⟩ := hrlf; exact (ho.lt b h).2)) (fun b h => h.imp id fun h => by obtain ⟨_, ho, _⟩ := hrlf; have := (ho.lt b h).1; have := HG.out; omega)
          have HCf := Lib.hid Cf
          clear Cf hrlf
          go_wp2_with fail
          refine HCf.out.mono ?_
          rintro e w4f ⟨⟨uf, rfl, hu⟩, hb4⟩
          obtain ⟨uaf, unf, ucf, rfl⟩ := hu.shape
          simp only [Dat.kind, Dat.text] at hu ⊢
          have HROW4f := Lib.hid (HROWo.out.below hb4)
          have HB4f := Lib.hid (HBo.out.trans (hb4.mono HBo.out.size))
          have HX4f := Lib.hid (HXo.out.keep hb4)
          have HD4f := Lib.hid hu
          clear hb4 hu
          obtain ⟨rsg, howng, hrawg⟩ := HROW4f.out
          have hdrg := HD4f.out.raw
          (try rw [← HLLo.out] at howng)
          (try rw [← HLLo.out] at hrawg)
          have HDRg := Lib.hid hdrg
          have HRAWg := Lib.hid hrawg
          have HOWNg := Lib.hid (howng.alloc (.cells #[.int .i64 5, .string ⟨#[]⟩, .slice uaf unf ucf] 39))
          have hbaseg : g + 1 ≤ w4f.heap.size := HX4f.out.lt
          have HBASEg := Lib.hid hbaseg
          clear howng hrawg hdrg hbaseg
          go_wp2_with (at_builtin; refine wpList_append_lies _ rfl _ _ 37 rfl (g + 1) 39 i0 (.agg #[.int .i64 0, .string ⟨#[]⟩, .slice none 0 0]) 3 48 Tryd.underlying37 hi hz0 hz1 hz2 rfl (by decide) _ (nL + 1) (dsCells rsg) rfl HOWNg.out ⟨w4f.heap.size, 0, none⟩ 1 1 (dCells ⟨5, ⟨#[]⟩, .slice uaf unf ucf⟩) rfl rfl (World.news_of_block (heap_alloc_new w4f _)) ?_ (by omega) ?_ ?_ ?_ (w4f.heap.size + 1) (alloc_hs _ _) ?_)
          · intro x hx; simp only [dCells, List.mem_cons, List.not_mem_nil, or_false] at hx; rcases hx with rfl | rfl | rfl <;> rfl
          · unfold maxLen; omega
          · omega
          · rw [alloc_hs]; have := HBASEg.out; omega
          intro ggg capg w5g hown5 hgrow5 hlies5 hlt5
          have HROWg := Lib.hid (show RowAt N (g + 1) w5g (.slice (some ⟨ggg, 0, none⟩) ((nL + 1) + 1) capg) ((L ++ [rowD nList TP]) ++ [(rowD nArrow TF)]) by
            have h2 : DawOf w4f (fun b => Lo N w4f b ∧ (Value.slice (some ⟨ggo, 0, none⟩) (nL + 1) capo).ownBlock ≠ some b) ⟨5, ⟨#[]⟩, .slice uaf unf ucf⟩ (rowD nArrow TF) := HDRg.out.mono (fun b h => ⟨⟨h.1, fun e => h.2 (.inl e)⟩, fun e => h.2 (.inr e)⟩) fun _ _ _ => rfl
            have h1 := HRAWg.out
            have hn := HLLo.out
            (try rw [hn] at h1)
            (try rw [hn] at h2)
            (try rw [hn] at hown5)
            (try rw [hn] at hgrow5)
            (try rw [hn] at hlies5)
            (try rw [hn])
            exact rowat_push h1 h2 hgrow5 hlies5 hown5)
          have hown4 := HOWNg.out
          have hge : ∀ k, (Value.slice (some ⟨ggo, 0, none⟩) (nL + 1) capo).ownBlock = some k → g + 1 ≤ k := fun k hk => (hown4.lt k hk).1
          have HXg := Lib.hid (show BoxAt w5g g xa xf 2 (.slice xpa 1 xpc) 1 (.slice xfa xnf xfc) from (hgrow5.block g (by rw [alloc_hs]; have := HX4f.out.lt; omega) (fun e => by have := hge g e.symm; omega)).trans ((Below.heap_alloc _ _ _ HX4f.out.lt).trans HX4f.out))
          have HBg := Lib.hid (show Below w.heap.size w w5g from (HB4f.out.alloc HB4f.out.size _).grown hgrow5 (by rw [alloc_hs]; have := HB4f.out.size; omega) fun k hk => by have := hge k hk; have := HG.out; omega)
          clear hge hown4 hown5 hgrow5 hlies5 hlt5
          have HLLg := Lib.hid (show (nL + 1) + 1 = ((L ++ [rowD nList TP]) ++ [rowD nArrow TF]).length by rw [List.length_append, ← HLLo.out]; rfl)
          have HFIN := Lib.hid (show ND ++ PD ++ FD = (L ++ [rowD nList TP]) ++ [rowD nArrow TF] by rw [HFD1.out, HEQ.out])
          have hdn : SliceOf w5g (Lo N w5g) (.slice (some ⟨ggg, 0, none⟩) ((nL + 1) + 1) capg) (ND ++ (PD ++ FD)) := by
            rw [← List.append_assoc, HFIN.out]
            have h := HROWg.out.done (fun b h => by have := HN.out b h; have := HG.out; omega) (by rw [← HLLg.out]; unfold maxLen; omega)
            first | exact h | (rw [HLLg.out]; exact h)
          have HDN := Lib.hid hdn
          clear hdn
          go_wp2
          go_ret
          exact ⟨⟨_, rfl, by first | exact HDN.out | (rw [List.append_assoc]; exact HDN.out)⟩, HBg.out⟩
        · subst hn2
          have HFD1 := Lib.hid (show FD = [symD nProc] by rw [HFD.out]; rfl)
          go_wp2_with fail
          refine (HCW.out ⟨nProc.toArray⟩ (by decide) w5o).mono ?_
          rintro e w4f ⟨rfl, hb4⟩
          have HROW4f := Lib.hid (HROWo.out.below hb4)
          have HB4f := Lib.hid (HBo.out.trans (hb4.mono HBo.out.size))
          have HX4f := Lib.hid (HXo.out.keep hb4)
          have HD4f := Lib.hid (show DatVN (fun b => N b ∨ (Value.slice (some ⟨ggo, 0, none⟩) (nL + 1) capo).ownBlock = some b) w4f (.agg #[.int .i64 1, .string ⟨nProc.toArray⟩, .slice none 0 0]) (symD nProc) from DatVN.mk (.mkNil _ _))
          clear hb4
          obtain ⟨rsg, howng, hrawg⟩ := HROW4f.out
          have hdrg := HD4f.out.raw
          (try rw [← HLLo.out] at howng)
          (try rw [← HLLo.out] at hrawg)
          have HDRg := Lib.hid hdrg
          have HRAWg := Lib.hid hrawg
          have HOWNg := Lib.hid (howng.alloc (.cells #[.int .i64 1, .string ⟨nProc.toArray⟩, .slice none 0 0] 39))
          have hbaseg : g + 1 ≤ w4f.heap.size := HX4f.out.lt
          have HBASEg := Lib.hid hbaseg
          clear howng hrawg hdrg hbaseg
          go_wp2_with (at_builtin; refine wpList_append_lies _ rfl _ _ 37 rfl (g + 1) 39 i0 (.agg #[.int .i64 0, .string ⟨#[]⟩, .slice none 0 0]) 3 48 Tryd.underlying37 hi hz0 hz1 hz2 rfl (by decide) _ (nL + 1) (dsCells rsg) rfl HOWNg.out ⟨w4f.heap.size, 0, none⟩ 1 1 (dCells ⟨1, ⟨nProc.toArray⟩, .slice none 0 0⟩) rfl rfl (World.news_of_block (heap_alloc_new w4f _)) ?_ (by omega) ?_ ?_ ?_ (w4f.heap.size + 1) (alloc_hs _ _) ?_)
          · intro x hx; simp only [dCells, List.mem_cons, List.not_mem_nil, or_false] at hx; rcases hx with rfl | rfl | rfl <;> rfl
          · unfold maxLen; omega
          · omega
          · rw [alloc_hs]; have := HBASEg.out; omega
          intro ggg capg w5g hown5 hgrow5 hlies5 hlt5
          have HROWg := Lib.hid (show RowAt N (g + 1) w5g (.slice (some ⟨ggg, 0, none⟩) ((nL + 1) + 1) capg) ((L ++ [rowD nList TP]) ++ [(symD nProc)]) by
            have h2 : DawOf w4f (fun b => Lo N w4f b ∧ (Value.slice (some ⟨ggo, 0, none⟩) (nL + 1) capo).ownBlock ≠ some b) ⟨1, ⟨nProc.toArray⟩, .slice none 0 0⟩ (symD nProc) := HDRg.out.mono (fun b h => ⟨⟨h.1, fun e => h.2 (.inl e)⟩, fun e => h.2 (.inr e)⟩) fun _ _ _ => rfl
            have h1 := HRAWg.out
            have hn := HLLo.out
            (try rw [hn] at h1)
            (try rw [hn] at h2)
            (try rw [hn] at hown5)
            (try rw [hn] at hgrow5)
            (try rw [hn] at hlies5)
            (try rw [hn])
            exact rowat_push h1 h2 hgrow5 hlies5 hown5)
          have hown4 := HOWNg.out
          have hge : ∀ k, (Value.slice (some ⟨ggo, 0, none⟩) (nL + 1) capo).ownBlock = some k → g + 1 ≤ k := fun k hk => (hown4.lt k hk).1
          have HXg := Lib.hid (show BoxAt w5g g xa xf 2 (.slice xpa 1 xpc) 2 (.slice xfa xnf xfc) from (hgrow5.block g (by rw [alloc_hs]; have := HX4f.out.lt; omega) (fun e => by have := hge g e.symm; omega)).trans ((Below.heap_alloc _ _ _ HX4f.out.lt).trans HX4f.out))
          have HBg := Lib.hid (show Below w.heap.size w w5g from (HB4f.out.alloc HB4f.out.size _).grown hgrow5 (by rw [alloc_hs]; have := HB4f.out.size; omega) fun k hk => by have := hge k hk; have := HG.out; omega)
          clear hge hown4 hown5 hgrow5 hlies5 hlt5
          have HLLg := Lib.hid (show (nL + 1) + 1 = ((L ++ [rowD nList TP]) ++ [symD nProc]).length by rw [List.length_append, ← HLLo.out]; rfl)
          have HFIN := Lib.hid (show ND ++ PD ++ FD = (L ++ [rowD nList TP]) ++ [symD nProc] by rw [HFD1.out, HEQ.out])
          have hdn : SliceOf w5g (Lo N w5g) (.slice (some ⟨ggg, 0, none⟩) ((nL + 1) + 1) capg) (ND ++ (PD ++ FD)) := by
            rw [← List.append_assoc, HFIN.out]
            have h := HROWg.out.done (fun b h => by have := HN.out b h; have := HG.out; omega) (by rw [← HLLg.out]; unfold maxLen; omega)
            first | exact h | (rw [HLLg.out]; exact h)
          have HDN := Lib.hid hdn
          clear hdn
          go_wp2
          go_ret
          exact ⟨⟨_, rfl, by first | exact HDN.out | (rw [List.append_assoc]; exact HDN.out)⟩, HBg.out⟩
end Go.Proofs.YtdjhjapfmbcmlaaDoor
