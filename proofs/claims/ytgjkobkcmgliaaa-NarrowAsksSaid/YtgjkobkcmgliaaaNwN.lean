import Derived.Test.YtgjkobkcmgliaaaNwM
namespace Go.Proofs.Ytgjkobkcmgliaaa
open Go.RowKit

theorem i64_not (g : Int) : lowN (bits .xor .i64 (-1) g) = lowN (-1 - g) := by
  have h : (BitVec.ofInt 64 (-1) ^^^ BitVec.ofInt 64 g).toNat = 2 ^ 64 - 1 - (BitVec.ofInt 64 g).toNat := by
    have e : BitVec.ofInt 64 (-1) = BitVec.allOnes 64 := by decide
    rw [e, BitVec.allOnes_xor, BitVec.toNat_not]
  show lowN (IntKind.i64.wrap ((BitVec.ofInt 64 (-1) ^^^ BitVec.ofInt 64 g).toNat : Nat)) = lowN (-1 - g)
  rw [h, IntKind.wrap_i64, BitVec.toNat_ofInt]
  unfold lowN
  omega

set_option maxRecDepth 100000 in
set_option maxHeartbeats 8000000 in
theorem state_go (v g : Int) (w : World) : Calls Try.prog 62 #[.int .i64 v, .int .i64 g] w (FcPost (stateF v g) w) := by
  obtain ⟨W, hW⟩ : ∃ W, W = ((w.alloc (.cells #[.bool false, .slice none 0 0] 30)).alloc (.cells #[.int .i64 v, .int .i64 g] 61)).alloc (.cells #[.slice (some ⟨w.heap.size + 1, 0, none⟩) 1 1] 28) := ⟨_, rfl⟩
  have hbr : Bx W w.heap.size 30 #[.bool false, .slice none 0 0] := by rw [hW]; exact alloc_past (alloc_past (alloc_at rfl) (by simp)) (by simp <;> omega)
  have hbq : Bx W (w.heap.size + 1 + 1) 28 #[.slice (some ⟨w.heap.size + 1, 0, none⟩) 1 1] := by rw [hW]; exact alloc_at (by simp)
  have hbl : Below w.heap.size w W := by rw [hW]; exact (((Below.refl _ _).alloc (Nat.le_refl _) _).alloc (by simp) _).alloc (by simp <;> omega) _
  have hsz : W.heap.size = w.heap.size + 1 + 1 + 1 := by rw [hW]; simp
  have hf : FaB (w.heap.size + 1) W (.slice (some ⟨w.heap.size + 1, 0, none⟩) 1 1) [(v, g)] := by
    have := FaB.one (w := w.alloc (.cells #[.bool false, .slice none 0 0] 30)) v g 61
    rw [size_alloc] at this
    rw [hW]
    exact this.below ((Below.refl _ _).alloc (Nat.le_refl _) _)
  have HC := Lib.hid (norm1_go (w.heap.size + 1 + 1) _ 1 1 _ [(v, g)] W hbq.lt rfl (by omega) hf (hbq.c 0))
  have HR := Lib.hid hbr
  have HL := Lib.hid hbl
  have HSZ := Lib.hid hsz
  have HW := Lib.hid hW
  clear hbr hbq hbl hsz hW hf
  go_enter Try.func62, Try.ntmps62
  go_wp2_with fail
  rw [← HW.out]
  refine HC.out.mono ?_
  rintro e w1 ⟨⟨v1, rfl, hf⟩, hb1⟩
  obtain ⟨va, vc, vn, rfl, hvn⟩ := SlPost.val hf
  have hr1 := HR.out.keep hb1
  have r0 := hr1.c0
  have r1 := hr1.c1
  have f0 := hr1.fr 0
  have f1 := hr1.fr 1
  have HF := Lib.hid hf
  have HB1 := Lib.hid (HL.out.trans (hb1.mono HL.out.size))
  have HVN := Lib.hid hvn
  clear hr1 hf hb1 hvn HC HW
  go_wp2
  refine bodyPost_ret (v := .agg #[.bool false, .slice va vn vc]) ?_ ?_ ?_
  · simp [results, Try.results62, go_sem, r0, r1]
  · rfl
  · exact fc_pass (F := stateF v g) (by omega) (by have := HSZ.out; omega) HVN.out rfl HF.out HB1.out

set_option maxRecDepth 100000 in
set_option maxHeartbeats 8000000 in
theorem pis_go (v g : Int) (w : World) : Calls Try.prog 34 #[.int .i64 v, .int .i64 g] w (PrPost (isP v g) w) := by
  obtain ⟨W, hW⟩ : ∃ W, W = w.alloc (.cells #[.bool false, .slice none 0 0, .bool false, .slice none 0 0] 32) := ⟨_, rfl⟩
  have HR := Lib.hid (show Bx W w.heap.size 32 #[.bool false, .slice none 0 0, .bool false, .slice none 0 0] by rw [hW]; exact Bx.made _ _ _)
  have HL := Lib.hid (show Below w.heap.size w W by rw [hW]; exact (Below.refl _ _).alloc (Nat.le_refl _) _)
  have HSZ := Lib.hid (show W.heap.size = w.heap.size + 1 by rw [hW]; simp)
  have HW := Lib.hid hW
  clear hW
  go_enter Try.func34, Try.ntmps34
  go_wp2_with fail
  rw [← HW.out]
  refine (state_go v g W).mono ?_
  rintro e w1 ⟨⟨v1, rfl, va, vc, rfl, hfa⟩, hb1⟩
  obtain ⟨n1, hn1⟩ : ∃ n, n = (stateF v g).l.length := ⟨_, rfl⟩
  rw [← hn1] at hfa ⊢
  have HN1 := Lib.hid hn1
  have HB1 := Lib.hid hb1
  have HFA := Lib.hid hfa
  rw [show (stateF v g).never = false from rfl]
  clear hn1 hb1 hfa HW
  go_wp2_with fail
  have hx := state_go v (bits .xor .i64 (-1) g) w1
  rw [show stateF v (bits .xor .i64 (-1) g) = stateF v (-1 - g) from by unfold stateF; have := nrm_one v _ _ (i64_not g); rw [List.append_nil] at this; rw [this]] at hx
  refine hx.mono ?_
  rintro e w3 ⟨⟨v3, rfl, ua, uc, rfl, hfu⟩, hb3⟩
  obtain ⟨n2, hn2⟩ : ∃ n, n = (stateF v (-1 - g)).l.length := ⟨_, rfl⟩
  rw [← hn2] at hfu ⊢
  have hr3 := (HR.out.keep HB1.out).keep hb3
  have r0 := hr3.d0
  have r1 := hr3.d1
  have r2 := hr3.d2
  have r3 := hr3.d3
  have f0 := hr3.fr 0
  have f1 := hr3.fr 1
  have f2 := hr3.fr 2
  have f3 := hr3.fr 3
  have HN2 := Lib.hid hn2
  have HF1 := Lib.hid (HFA.out.below hb3)
  have HF2 := Lib.hid hfu
  have HBB := Lib.hid (HL.out.trans ((HB1.out.trans (hb3.mono HB1.out.size)).mono HL.out.size))
  have HSS := Lib.hid HB1.out.size
  clear hr3 hfu hb3 hn2 hx
  rw [show (stateF v (-1 - g)).never = false from rfl]
  go_wp2
  refine bodyPost_ret (v := .agg #[.bool false, .slice va n1 vc, .bool false, .slice ua n2 uc]) ?_ ?_ ?_
  · simp [results, Try.results34, go_sem, r0, r1, r2, r3]
  · rfl
  · exact pr_done (P := isP v g) (B := W.heap.size) (Nat.le_refl _) (by have := HSZ.out; omega) HN1.out HN2.out rfl rfl HF1.out (HF2.out.mono HSS.out) HBB.out

set_option maxRecDepth 100000 in
set_option maxHeartbeats 8000000 in
theorem ptruth_go (v : Int) (w : World) : Calls Try.prog 37 #[.int .i64 v] w (PrPost (truthP v) w) := by
  obtain ⟨W, hW⟩ : ∃ W, W = w.alloc (.cells #[.bool false, .slice none 0 0, .bool false, .slice none 0 0] 32) := ⟨_, rfl⟩
  have HR := Lib.hid (show Bx W w.heap.size 32 #[.bool false, .slice none 0 0, .bool false, .slice none 0 0] by rw [hW]; exact Bx.made _ _ _)
  have HL := Lib.hid (show Below w.heap.size w W by rw [hW]; exact (Below.refl _ _).alloc (Nat.le_refl _) _)
  have HSZ := Lib.hid (show W.heap.size = w.heap.size + 1 by rw [hW]; simp)
  have HW := Lib.hid hW
  clear hW
  go_enter Try.func37, Try.ntmps37
  go_wp2_with fail
  rw [← HW.out]
  refine (state_go v 2 W).mono ?_
  rintro e w3 ⟨⟨v3, rfl, ua, uc, rfl, hfu⟩, hb3⟩
  obtain ⟨n2, hn2⟩ : ∃ n, n = (stateF v 2).l.length := ⟨_, rfl⟩
  rw [← hn2] at hfu ⊢
  have hr3 := HR.out.keep hb3
  have r0 := hr3.d0
  have r1 := hr3.d1
  have r2 := hr3.d2
  have r3 := hr3.d3
  have f0 := hr3.fr 0
  have f1 := hr3.fr 1
  have f2 := hr3.fr 2
  have f3 := hr3.fr 3
  have HN2 := Lib.hid hn2
  have HF2 := Lib.hid hfu
  have HBB := Lib.hid (HL.out.trans (hb3.mono HL.out.size))
  clear hr3 hfu hb3 hn2 HW
  rw [show (stateF v 2).never = false from rfl]
  go_wp2
  refine bodyPost_ret (v := .agg #[.bool false, .slice none 0 0, .bool false, .slice ua n2 uc]) ?_ ?_ ?_
  · simp [results, Try.results37, go_sem, r0, r1, r2, r3]
  · rfl
  · exact pr_done (P := truthP v) (B := W.heap.size) (Nat.le_refl _) (by have := HSZ.out; omega) rfl HN2.out rfl rfl (FaB.nil _ _ _ _) HF2.out HBB.out

set_option maxRecDepth 100000 in
set_option maxHeartbeats 4000000 in
theorem pnone_go (w : World) : Calls Try.prog 39 #[] w (PrPost noneP w) := by
  go_enter Try.func39, Try.ntmps39
  go_wp2
  refine bodyPost_ret (v := .agg #[.bool false, .slice none 0 0, .bool false, .slice none 0 0]) ?_ ?_ ?_
  · simp [results, Try.results39, go_sem]
  · rfl
  · exact ⟨⟨_, rfl, none, 0, none, 0, rfl, FaB.nil _ _ _ _, FaB.nil _ _ _ _⟩, (Below.refl _ _).alloc (Nat.le_refl _) _⟩

set_option maxRecDepth 100000 in
set_option maxHeartbeats 4000000 in
theorem pconst_go (b : Bool) (w : World) : Calls Try.prog 35 #[.bool b] w (PrPost (constP b) w) := by
  cases b
  all_goals
    go_enter Try.func35, Try.ntmps35
    go_wp2
  · refine bodyPost_ret (v := .agg #[.bool true, .slice none 0 0, .bool false, .slice none 0 0]) ?_ ?_ ?_
    · simp [results, Try.results35, go_sem]
    · rfl
    · exact ⟨⟨_, rfl, none, 0, none, 0, rfl, FaB.nil _ _ _ _, FaB.nil _ _ _ _⟩, (Below.refl _ _).alloc (Nat.le_refl _) _⟩
  · refine bodyPost_ret (v := .agg #[.bool false, .slice none 0 0, .bool true, .slice none 0 0]) ?_ ?_ ?_
    · simp [results, Try.results35, go_sem]
    · rfl
    · exact ⟨⟨_, rfl, none, 0, none, 0, rfl, FaB.nil _ _ _ _, FaB.nil _ _ _ _⟩, (Below.refl _ _).alloc (Nat.le_refl _) _⟩

set_option maxRecDepth 100000 in
set_option maxHeartbeats 8000000 in
theorem own_go (B : Nat) (a : Option Addr) (c n : Nat) (F : Fcs) (w : World) (hn : n = F.l.length) (hm : n ≤ 20000) (hf : FaB B w (.slice a n c) F.l) :
    Calls Try.prog 63 #[.agg #[.bool F.never, .slice a n c]] w (FcPost F w) := by
  obtain ⟨nv, hnv⟩ : ∃ b, b = F.never := ⟨_, rfl⟩
  rw [← hnv]
  obtain ⟨W, hW⟩ : ∃ W, W = (w.alloc (.cells #[.bool nv, .slice a n c] 30)).alloc (.cells #[.bool false, .slice none 0 0] 30) := ⟨_, rfl⟩
  have HBx := Lib.hid (show Bx W w.heap.size 30 #[.bool nv, .slice a n c] by rw [hW]; exact alloc_past (alloc_at rfl) (by simp))
  have HR := Lib.hid (show Bx W (w.heap.size + 1) 30 #[.bool false, .slice none 0 0] by rw [hW]; exact alloc_at (by simp))
  have hbl : Below w.heap.size w W := by rw [hW]; exact ((Below.refl _ _).alloc (Nat.le_refl _) _).alloc (by simp) _
  have HSZ := Lib.hid (show W.heap.size = w.heap.size + 1 + 1 by rw [hW]; simp)
  have HF := Lib.hid (hf.below hbl)
  have HN := Lib.hid hn
  have HM := Lib.hid hm
  have HNV := Lib.hid hnv
  have HL := Lib.hid hbl
  have HW := Lib.hid hW
  clear hbl hf hn hm hnv hW
  go_enter Try.func63, Try.ntmps63
  go_upto_region 1 with fail
  rw [← HW.out]
  have BC := Lib.hid (show Below W.heap.size W W.drew from (Below.refl _ _).drew)
  (try dsimp only [List.append])
  refine wp_region_noPanic ?_
  refine wp_region_held_drew (S := (fun w' => w'.cell? ⟨w.heap.size, 0, none⟩ = some (.bool nv) ∧ w'.cell? ⟨w.heap.size, 1, none⟩ = some (.slice a n c))) (by kernel_rfl) (by (try dsimp only); exact ⟨(HBx.out.keep BC.out).c0, (HBx.out.keep BC.out).c1⟩) (fun hHeld => ?_)
  refine' tk_any 0 3 (v := _) ?hi12001 ?hd12001 (by kernel_rfl) (by kernel_rfl) (by kernel_rfl) (fun _ _ _ h => h) ?hy12001 hHeld ?hr12001
  case hi12001 => (simp only [List.getElem?_toArray, List.getElem?_cons_zero]; rfl)
  case hd12001 => rfl
  case hy12001 =>
    refine' Or.inl ⟨?hw12001, ?hx12001⟩
    case hw12001 => rfl
    case hx12001 => (intro w hSw; (try dsimp only at hSw); go_simp; (try with_reducible rfl))
  (try simp only [Act.put, List.setIfInBounds_toArray, List.set_cons_zero, List.set_cons_succ])
  refine' tk_any 1 4 (v := _) ?hi12002 ?hd12002 (by kernel_rfl) (by kernel_rfl) (by kernel_rfl) (fun _ _ _ h => h) ?hy12002 hHeld ?hr12002
  case hi12002 => (simp only [List.getElem?_toArray, List.getElem?_cons_succ, List.getElem?_cons_zero]; rfl)
  case hd12002 => rfl
  case hy12002 =>
    refine' Or.inl ⟨?hw12002, ?hx12002⟩
    case hw12002 => rfl
    case hx12002 => (intro w hSw; (try dsimp only at hSw); go_simp; (try with_reducible rfl))
  (try simp only [Act.put, List.setIfInBounds_toArray, List.set_cons_zero, List.set_cons_succ])
  refine' tk_any 2 5 (v := _) ?hi12003 ?hd12003 (by kernel_rfl) (by kernel_rfl) (by kernel_rfl) (fun _ _ _ h => h) ?hy12003 hHeld ?hr12003
  case hi12003 => (simp only [List.getElem?_toArray, List.getElem?_cons_succ, List.getElem?_cons_zero]; rfl)
  case hd12003 => rfl
  case hy12003 =>
    refine' Or.inl ⟨?hw12003, ?hx12003⟩
    case hw12003 => rfl
    case hx12003 => (intro w hSw; (try dsimp only at hSw); go_simp; (try with_reducible rfl))
  (try simp only [Act.put, List.setIfInBounds_toArray, List.set_cons_zero, List.set_cons_succ])
  refine' tk_any 3 6 (v := _) ?hi12004 ?hd12004 (by kernel_rfl) (by kernel_rfl) (by kernel_rfl) (fun _ _ _ h => h) ?hy12004 hHeld ?hr12004
  case hi12004 => (simp only [List.getElem?_toArray, List.getElem?_cons_succ, List.getElem?_cons_zero]; rfl)
  case hd12004 => rfl
  case hy12004 =>
    refine' Or.inl ⟨?hw12004, ?hx12004⟩
    case hw12004 => rfl
    case hx12004 => (intro w hSw; (try dsimp only at hSw); go_simp; (try with_reducible rfl))
  (try simp only [Act.put, List.setIfInBounds_toArray, List.set_cons_zero, List.set_cons_succ])
  refine' tk_call 4 ?hi12005 (by kernel_rfl) ?hr12005
  case hi12005 => (simp only [List.getElem?_toArray, List.getElem?_cons_succ, List.getElem?_cons_zero]; rfl)
  intro K hK
  go_simp
  go_at_call 84
  refine (fclone_go _ _ _ _ F.l _ HN.out (by have := HM.out; omega) (HF.out.below BC.out)).mono ?_
  rintro e wy ⟨⟨v, rfl, hf⟩, hb⟩
  obtain ⟨va, vc, vn, rfl, hvn⟩ := SlPost.val hf
  have HV := Lib.hid (hf.mono (B' := W.heap.size) (by have := BC.out.size; omega))
  have HVN := Lib.hid hvn
  replace BC := Lib.hid (BC.out.trans (hb.mono BC.out.size))
  clear hb hf hvn
  go_wp2_with fail
  clear hHeld
  refine hK.out _ _ (by (try dsimp only); exact ⟨(HBx.out.keep BC.out).c0, (HBx.out.keep BC.out).c1⟩) (fun hHeld => ?_)
  clear hK K
  (try simp only [Act.put, List.setIfInBounds_toArray, List.set_cons_zero, List.set_cons_succ])
  refine' tk_any 5 8 (v := _) ?hi12006 ?hd12006 (by kernel_rfl) (by kernel_rfl) (by kernel_rfl) (fun _ _ _ h => h) ?hy12006 hHeld ?hr12006
  case hi12006 => (simp only [List.getElem?_toArray, List.getElem?_cons_succ, List.getElem?_cons_zero]; rfl)
  case hd12006 => rfl
  case hy12006 =>
    refine' Or.inl ⟨?hw12006, ?hx12006⟩
    case hw12006 => rfl
    case hx12006 => (intro w hSw; (try dsimp only at hSw); go_simp; (try with_reducible rfl))
  (try simp only [Act.put, List.setIfInBounds_toArray, List.set_cons_zero, List.set_cons_succ])
  have hr := HR.out.keep BC.out
  have r0 := hr.c0
  have r1 := hr.c1
  have f0 := hr.fr 0
  have f1 := hr.fr 1
  clear hr
  refine' tk_call 6 ?hi12007 (by kernel_rfl) ?hr12007
  case hi12007 => (simp only [List.getElem?_toArray, List.getElem?_cons_succ, List.getElem?_cons_zero]; rfl)
  intro K hK
  go_simp
  clear hHeld
  refine hK.out _ _ (by (try dsimp only); exact ⟨set_blk (by omega) (set_blk (by omega) (HBx.out.keep BC.out).c0), set_blk (by omega) (set_blk (by omega) (HBx.out.keep BC.out).c1)⟩) (fun hHeld => ?_)
  clear hK K
  (try simp only [Act.put, List.setIfInBounds_toArray, List.set_cons_zero, List.set_cons_succ])
  refine wpAnyH_done (by kernel_rfl) ?_ _
  refine NoPanic.normal ?_
  go_wp2
  refine bodyPost_ret (v := .agg #[.bool nv, .slice va vn vc]) ?_ ?_ ?_
  · simp [results, Try.results63, go_sem, r0, r1]
  · rfl
  · exact fc_pass (B := W.heap.size) (F := F) (by omega) (by have := HSZ.out; omega) HVN.out HNV.out HV.out (HL.out.trans (BC.out.mono HL.out.size))

set_option maxRecDepth 100000 in
set_option maxHeartbeats 16000000 in
theorem pnot_go (B : Nat) (a1 a2 : Option Addr) (n1 c1 n2 c2 : Nat) (p : Prp) (w : World) (hn1 : n1 = p.th.l.length) (hn2 : n2 = p.el.l.length) (hm1 : n1 ≤ 20000) (hm2 : n2 ≤ 20000) (h1 : FaB B w (.slice a1 n1 c1) p.th.l) (h2 : FaB B w (.slice a2 n2 c2) p.el.l) :
    Calls Try.prog 38 #[.agg #[.bool p.th.never, .slice a1 n1 c1, .bool p.el.never, .slice a2 n2 c2]] w (PrPost (notP p) w) := by
  obtain ⟨F, hF⟩ : ∃ F, F = p.th := ⟨_, rfl⟩
  obtain ⟨G, hG⟩ : ∃ F, F = p.el := ⟨_, rfl⟩
  have HNP := Lib.hid (show notP p = ⟨G, F⟩ by rw [hF, hG]; rfl)
  rw [HNP.out]
  rw [← hF] at hn1 h1 ⊢
  rw [← hG] at hn2 h2 ⊢
  obtain ⟨b1, hb1⟩ : ∃ b, b = F.never := ⟨_, rfl⟩
  obtain ⟨b2, hb2⟩ : ∃ b, b = G.never := ⟨_, rfl⟩
  rw [← hb1, ← hb2]
  obtain ⟨W, hW⟩ : ∃ W, W = (w.alloc (.cells #[.bool b1, .slice a1 n1 c1, .bool b2, .slice a2 n2 c2] 32)).alloc (.cells #[.bool false, .slice none 0 0, .bool false, .slice none 0 0] 32) := ⟨_, rfl⟩
  have HBx := Lib.hid (show Bx W w.heap.size 32 #[.bool b1, .slice a1 n1 c1, .bool b2, .slice a2 n2 c2] by rw [hW]; exact alloc_past (alloc_at rfl) (by simp))
  have HR := Lib.hid (show Bx W (w.heap.size + 1) 32 #[.bool false, .slice none 0 0, .bool false, .slice none 0 0] by rw [hW]; exact alloc_at (by simp))
  have hbl : Below w.heap.size w W := by rw [hW]; exact ((Below.refl _ _).alloc (Nat.le_refl _) _).alloc (by simp) _
  have HSZ := Lib.hid (show W.heap.size = w.heap.size + 1 + 1 by rw [hW]; simp)
  have HF := Lib.hid (h1.below hbl)
  have HG := Lib.hid (h2.below hbl)
  have HN1 := Lib.hid hn1
  have HN2 := Lib.hid hn2
  have HV1 := Lib.hid hb1
  have HV2 := Lib.hid hb2
  have HM := Lib.hid (And.intro hm1 hm2)
  have HL := Lib.hid hbl
  have HW := Lib.hid hW
  clear hbl h1 h2 hn1 hn2 hm1 hm2 hb1 hb2 hW hF hG
  go_enter Try.func38, Try.ntmps38
  go_upto_region 1 with fail
  rw [← HW.out]
  have BC := Lib.hid (show Below W.heap.size W W.drew from (Below.refl _ _).drew)
  (try dsimp only [List.append])
  refine wp_region_noPanic ?_
  refine wp_region_held_drew (S := (fun w' => w'.cell? ⟨w.heap.size, 0, none⟩ = some (.bool b1) ∧ w'.cell? ⟨w.heap.size, 1, none⟩ = some (.slice a1 n1 c1) ∧ w'.cell? ⟨w.heap.size, 2, none⟩ = some (.bool b2) ∧ w'.cell? ⟨w.heap.size, 3, none⟩ = some (.slice a2 n2 c2))) (by kernel_rfl) (by (try dsimp only); exact ⟨(HBx.out.keep BC.out).d0, (HBx.out.keep BC.out).d1, (HBx.out.keep BC.out).d2, (HBx.out.keep BC.out).d3⟩) (fun hHeld => ?_)
  refine' tk_any 0 3 (v := _) ?hi12008 ?hd12008 (by kernel_rfl) (by kernel_rfl) (by kernel_rfl) (fun _ _ _ h => h) ?hy12008 hHeld ?hr12008
  case hi12008 => (simp only [List.getElem?_toArray, List.getElem?_cons_zero]; rfl)
  case hd12008 => rfl
  case hy12008 =>
    refine' Or.inl ⟨?hw12008, ?hx12008⟩
    case hw12008 => rfl
    case hx12008 => (intro w hSw; (try dsimp only at hSw); go_simp; (try with_reducible rfl))
  (try simp only [Act.put, List.setIfInBounds_toArray, List.set_cons_zero, List.set_cons_succ])
  refine' tk_any 1 4 (v := _) ?hi12009 ?hd12009 (by kernel_rfl) (by kernel_rfl) (by kernel_rfl) (fun _ _ _ h => h) ?hy12009 hHeld ?hr12009
  case hi12009 => (simp only [List.getElem?_toArray, List.getElem?_cons_succ, List.getElem?_cons_zero]; rfl)
  case hd12009 => rfl
  case hy12009 =>
    refine' Or.inl ⟨?hw12009, ?hx12009⟩
    case hw12009 => rfl
    case hx12009 => (intro w hSw; (try dsimp only at hSw); go_simp; (try with_reducible rfl))
  (try simp only [Act.put, List.setIfInBounds_toArray, List.set_cons_zero, List.set_cons_succ])
  refine' tk_any 3 6 (v := _) ?hi12010 ?hd12010 (by kernel_rfl) (by kernel_rfl) (by kernel_rfl) (fun _ _ _ h => h) ?hy12010 hHeld ?hr12010
  case hi12010 => (simp only [List.getElem?_toArray, List.getElem?_cons_succ, List.getElem?_cons_zero]; rfl)
  case hd12010 => rfl
  case hy12010 =>
    refine' Or.inl ⟨?hw12010, ?hx12010⟩
    case hw12010 => rfl
    case hx12010 => (intro w hSw; (try dsimp only at hSw); go_simp; (try with_reducible rfl))
  (try simp only [Act.put, List.setIfInBounds_toArray, List.set_cons_zero, List.set_cons_succ])
  refine' tk_any 4 7 (v := _) ?hi12011 ?hd12011 (by kernel_rfl) (by kernel_rfl) (by kernel_rfl) (fun _ _ _ h => h) ?hy12011 hHeld ?hr12011
  case hi12011 => (simp only [List.getElem?_toArray, List.getElem?_cons_succ, List.getElem?_cons_zero]; rfl)
  case hd12011 => rfl
  case hy12011 =>
    refine' Or.inl ⟨?hw12011, ?hx12011⟩
    case hw12011 => rfl
    case hx12011 => (intro w hSw; (try dsimp only at hSw); go_simp; (try with_reducible rfl))
  (try simp only [Act.put, List.setIfInBounds_toArray, List.set_cons_zero, List.set_cons_succ])
  refine' tk_call 2 ?hi12012 (by kernel_rfl) ?hr12012
  case hi12012 => (simp only [List.getElem?_toArray, List.getElem?_cons_succ, List.getElem?_cons_zero]; rfl)
  intro K hK
  go_simp
  go_at_call 63
  refine ((show Calls _ _ #[.agg #[.bool b2, .slice a2 n2 c2]] _ (FcPost G _) by rw [HV2.out]; exact own_go _ _ _ _ G _ HN2.out (by have := HM.out; omega) (HG.out.below BC.out))).mono ?_
  rintro e wy2 ⟨⟨v, rfl, ua, uc, rfl, hf⟩, hb⟩
  obtain ⟨un, hun⟩ : ∃ n, n = G.l.length := ⟨_, rfl⟩
  rw [← hun] at hf ⊢
  rw [← HV2.out]
  have HFu := Lib.hid (hf.mono (B' := W.heap.size) (by have := BC.out.size; omega))
  have HNNu := Lib.hid hun
  replace BC := Lib.hid (BC.out.trans (hb.mono BC.out.size))
  clear hb hf hun
  go_wp2_with fail
  clear hHeld
  refine hK.out _ _ (by (try dsimp only); exact ⟨(HBx.out.keep BC.out).d0, (HBx.out.keep BC.out).d1, (HBx.out.keep BC.out).d2, (HBx.out.keep BC.out).d3⟩) (fun hHeld => ?_)
  clear hK K
  (try simp only [Act.put, List.setIfInBounds_toArray, List.set_cons_zero, List.set_cons_succ])
  refine' tk_call 5 ?hi12013 (by kernel_rfl) ?hr12013
  case hi12013 => (simp only [List.getElem?_toArray, List.getElem?_cons_succ, List.getElem?_cons_zero]; rfl)
  intro K hK
  go_simp
  go_at_call 63
  refine ((show Calls _ _ #[.agg #[.bool b1, .slice a1 n1 c1]] _ (FcPost F _) by rw [HV1.out]; exact own_go _ _ _ _ F _ HN1.out (by have := HM.out; omega) (HF.out.below BC.out))).mono ?_
  rintro e wy1 ⟨⟨v, rfl, va, vc, rfl, hf⟩, hb⟩
  replace HFu := Lib.hid (HFu.out.below hb)
  obtain ⟨vn, hvn⟩ : ∃ n, n = F.l.length := ⟨_, rfl⟩
  rw [← hvn] at hf ⊢
  rw [← HV1.out]
  have HFv := Lib.hid (hf.mono (B' := W.heap.size) (by have := BC.out.size; omega))
  have HNNv := Lib.hid hvn
  replace BC := Lib.hid (BC.out.trans (hb.mono BC.out.size))
  clear hb hf hvn
  go_wp2_with fail
  clear hHeld
  refine hK.out _ _ (by (try dsimp only); exact ⟨(HBx.out.keep BC.out).d0, (HBx.out.keep BC.out).d1, (HBx.out.keep BC.out).d2, (HBx.out.keep BC.out).d3⟩) (fun hHeld => ?_)
  clear hK K
  (try simp only [Act.put, List.setIfInBounds_toArray, List.set_cons_zero, List.set_cons_succ])
  refine' tk_any 6 9 (v := _) ?hi12014 ?hd12014 (by kernel_rfl) (by kernel_rfl) (by kernel_rfl) (fun _ _ _ h => h) ?hy12014 hHeld ?hr12014
  case hi12014 => (simp only [List.getElem?_toArray, List.getElem?_cons_succ, List.getElem?_cons_zero]; rfl)
  case hd12014 => rfl
  case hy12014 =>
    refine' Or.inl ⟨?hw12014, ?hx12014⟩
    case hw12014 => rfl
    case hx12014 => (intro w hSw; (try dsimp only at hSw); go_simp; (try with_reducible rfl))
  (try simp only [Act.put, List.setIfInBounds_toArray, List.set_cons_zero, List.set_cons_succ])
  have hr := HR.out.keep BC.out
  have r0 := hr.d0
  have r1 := hr.d1
  have r2 := hr.d2
  have r3 := hr.d3
  have f0 := hr.fr 0
  have f1 := hr.fr 1
  have f2 := hr.fr 2
  have f3 := hr.fr 3
  clear hr
  refine' tk_call 7 ?hi12015 (by kernel_rfl) ?hr12015
  case hi12015 => (simp only [List.getElem?_toArray, List.getElem?_cons_succ, List.getElem?_cons_zero]; rfl)
  intro K hK
  go_simp
  clear hHeld
  refine hK.out _ _ (by (try dsimp only); exact ⟨set_blk (by omega) (set_blk (by omega) (set_blk (by omega) (set_blk (by omega) (HBx.out.keep BC.out).d0))), set_blk (by omega) (set_blk (by omega) (set_blk (by omega) (set_blk (by omega) (HBx.out.keep BC.out).d1))), set_blk (by omega) (set_blk (by omega) (set_blk (by omega) (set_blk (by omega) (HBx.out.keep BC.out).d2))), set_blk (by omega) (set_blk (by omega) (set_blk (by omega) (set_blk (by omega) (HBx.out.keep BC.out).d3)))⟩) (fun hHeld => ?_)
  clear hK K
  (try simp only [Act.put, List.setIfInBounds_toArray, List.set_cons_zero, List.set_cons_succ])
  refine wpAnyH_done (by kernel_rfl) ?_ _
  refine NoPanic.normal ?_
  go_wp2
  refine bodyPost_ret (v := .agg #[.bool b2, .slice ua un uc, .bool b1, .slice va vn vc]) ?_ ?_ ?_
  · simp [results, Try.results38, go_sem, r0, r1, r2, r3]
  · rfl
  · exact pr_done (P := ⟨G, F⟩) (B := W.heap.size) (by omega) (by have := HSZ.out; omega) HNNu.out HNNv.out HV2.out HV1.out HFu.out HFv.out (HL.out.trans (BC.out.mono HL.out.size))

set_option maxRecDepth 100000 in
set_option maxHeartbeats 32000000 in
theorem pif_go (BX BY BZ : Nat) (x1 x2 : Option Addr) (xn1 xc1 xn2 xc2 : Nat) (xp : Prp) (y1 y2 : Option Addr) (yn1 yc1 yn2 yc2 : Nat) (yp : Prp) (z1 z2 : Option Addr) (zn1 zc1 zn2 zc2 : Nat) (zp : Prp) (w : World) (hxn1 : xn1 = xp.th.l.length) (hxn2 : xn2 = xp.el.l.length) (hxb1 : xn1 ≤ 1000) (hxb2 : xn2 ≤ 1000) (hx1 : FaB BX w (.slice x1 xn1 xc1) xp.th.l) (hx2 : FaB BX w (.slice x2 xn2 xc2) xp.el.l) (hyn1 : yn1 = yp.th.l.length) (hyn2 : yn2 = yp.el.l.length) (hyb1 : yn1 ≤ 1000) (hyb2 : yn2 ≤ 1000) (hy1 : FaB BY w (.slice y1 yn1 yc1) yp.th.l) (hy2 : FaB BY w (.slice y2 yn2 yc2) yp.el.l) (hzn1 : zn1 = zp.th.l.length) (hzn2 : zn2 = zp.el.l.length) (hzb1 : zn1 ≤ 1000) (hzb2 : zn2 ≤ 1000) (hz1 : FaB BZ w (.slice z1 zn1 zc1) zp.th.l) (hz2 : FaB BZ w (.slice z2 zn2 zc2) zp.el.l) :
    Calls Try.prog 33 #[.agg #[.bool xp.th.never, .slice x1 xn1 xc1, .bool xp.el.never, .slice x2 xn2 xc2], .agg #[.bool yp.th.never, .slice y1 yn1 yc1, .bool yp.el.never, .slice y2 yn2 yc2], .agg #[.bool zp.th.never, .slice z1 zn1 zc1, .bool zp.el.never, .slice z2 zn2 zc2]] w (PrPost (ifP xp yp zp) w) := by
  obtain ⟨xF, hxF⟩ : ∃ F, F = xp.th := ⟨_, rfl⟩
  obtain ⟨xG, hxG⟩ : ∃ F, F = xp.el := ⟨_, rfl⟩
  rw [← hxF] at hxn1 hx1 ⊢
  rw [← hxG] at hxn2 hx2 ⊢
  obtain ⟨yF, hyF⟩ : ∃ F, F = yp.th := ⟨_, rfl⟩
  obtain ⟨yG, hyG⟩ : ∃ F, F = yp.el := ⟨_, rfl⟩
  rw [← hyF] at hyn1 hy1 ⊢
  rw [← hyG] at hyn2 hy2 ⊢
  obtain ⟨zF, hzF⟩ : ∃ F, F = zp.th := ⟨_, rfl⟩
  obtain ⟨zG, hzG⟩ : ∃ F, F = zp.el := ⟨_, rfl⟩
  rw [← hzF] at hzn1 hz1 ⊢
  rw [← hzG] at hzn2 hz2 ⊢
  have HIF := Lib.hid (show ifP xp yp zp = ⟨orF (andF xF yF) (andF xG zF), orF (andF xF yG) (andF xG zG)⟩ by rw [hxF, hxG, hyF, hyG, hzF, hzG]; rfl)
  rw [HIF.out]
  clear hxF hxG hyF hyG hzF hzG
  obtain ⟨xb1, hx1v⟩ : ∃ b, b = xF.never := ⟨_, rfl⟩
  obtain ⟨xb2, hx2v⟩ : ∃ b, b = xG.never := ⟨_, rfl⟩
  rw [← hx1v, ← hx2v]
  obtain ⟨yb1, hy1v⟩ : ∃ b, b = yF.never := ⟨_, rfl⟩
  obtain ⟨yb2, hy2v⟩ : ∃ b, b = yG.never := ⟨_, rfl⟩
  rw [← hy1v, ← hy2v]
  obtain ⟨zb1, hz1v⟩ : ∃ b, b = zF.never := ⟨_, rfl⟩
  obtain ⟨zb2, hz2v⟩ : ∃ b, b = zG.never := ⟨_, rfl⟩
  rw [← hz1v, ← hz2v]
  obtain ⟨W, hW⟩ : ∃ W, W = (((w.alloc (.cells #[.bool xb1, .slice x1 xn1 xc1, .bool xb2, .slice x2 xn2 xc2] 32)).alloc (.cells #[.bool yb1, .slice y1 yn1 yc1, .bool yb2, .slice y2 yn2 yc2] 32)).alloc (.cells #[.bool zb1, .slice z1 zn1 zc1, .bool zb2, .slice z2 zn2 zc2] 32)).alloc (.cells #[.bool false, .slice none 0 0, .bool false, .slice none 0 0] 32) := ⟨_, rfl⟩
  have HBx := Lib.hid (show Bx W w.heap.size 32 #[.bool xb1, .slice x1 xn1 xc1, .bool xb2, .slice x2 xn2 xc2] by rw [hW]; exact alloc_past (alloc_past (alloc_past (alloc_at rfl) (by simp)) (by simp <;> omega)) (by simp <;> omega))
  have HBy := Lib.hid (show Bx W (w.heap.size + 1) 32 #[.bool yb1, .slice y1 yn1 yc1, .bool yb2, .slice y2 yn2 yc2] by rw [hW]; exact alloc_past (alloc_past (alloc_at (by simp)) (by simp)) (by simp <;> omega))
  have HBz := Lib.hid (show Bx W (w.heap.size + 1 + 1) 32 #[.bool zb1, .slice z1 zn1 zc1, .bool zb2, .slice z2 zn2 zc2] by rw [hW]; exact alloc_past (alloc_at (by simp)) (by simp))
  have HR := Lib.hid (show Bx W (w.heap.size + 1 + 1 + 1) 32 #[.bool false, .slice none 0 0, .bool false, .slice none 0 0] by rw [hW]; exact alloc_at (by simp))
  have hbl : Below w.heap.size w W := by rw [hW]; exact ((((Below.refl _ _).alloc (Nat.le_refl _) _).alloc (by simp) _).alloc (by simp <;> omega) _).alloc (by simp <;> omega) _
  have HSZ := Lib.hid (show W.heap.size = w.heap.size + 1 + 1 + 1 + 1 by rw [hW]; simp)
  have HW := Lib.hid hW
  have HL := Lib.hid hbl
  have Hx1 := Lib.hid (hx1.below hbl)
  have Hx2 := Lib.hid (hx2.below hbl)
  have HNx1 := Lib.hid hxn1
  have HNx2 := Lib.hid hxn2
  have HVx1 := Lib.hid hx1v
  have HVx2 := Lib.hid hx2v
  have Hy1 := Lib.hid (hy1.below hbl)
  have Hy2 := Lib.hid (hy2.below hbl)
  have HNy1 := Lib.hid hyn1
  have HNy2 := Lib.hid hyn2
  have HVy1 := Lib.hid hy1v
  have HVy2 := Lib.hid hy2v
  have Hz1 := Lib.hid (hz1.below hbl)
  have Hz2 := Lib.hid (hz2.below hbl)
  have HNz1 := Lib.hid hzn1
  have HNz2 := Lib.hid hzn2
  have HVz1 := Lib.hid hz1v
  have HVz2 := Lib.hid hz2v
  have HBD := Lib.hid (show xn1 ≤ 1000 ∧ xn2 ≤ 1000 ∧ yn1 ≤ 1000 ∧ yn2 ≤ 1000 ∧ zn1 ≤ 1000 ∧ zn2 ≤ 1000 from ⟨hxb1, hxb2, hyb1, hyb2, hzb1, hzb2⟩)
  clear hbl hW hx1 hx2 hxn1 hxn2 hx1v hx2v hxb1 hxb2 hy1 hy2 hyn1 hyn2 hy1v hy2v hyb1 hyb2 hz1 hz2 hzn1 hzn2 hz1v hz2v hzb1 hzb2
  go_enter Try.func33, Try.ntmps33
  go_upto_region 1 with fail
  rw [← HW.out]
  clear HW
  have BC := Lib.hid (show Below W.heap.size W W.drew from (Below.refl _ _).drew)
  (try dsimp only [List.append])
  refine wp_region_noPanic ?_
  refine wp_region_held_drew (S := (fun w' => w'.cell? ⟨w.heap.size, 0, none⟩ = some (.bool xb1) ∧ w'.cell? ⟨w.heap.size, 1, none⟩ = some (.slice x1 xn1 xc1) ∧ w'.cell? ⟨w.heap.size, 2, none⟩ = some (.bool xb2) ∧ w'.cell? ⟨w.heap.size, 3, none⟩ = some (.slice x2 xn2 xc2) ∧ w'.cell? ⟨w.heap.size + 1, 0, none⟩ = some (.bool yb1) ∧ w'.cell? ⟨w.heap.size + 1, 1, none⟩ = some (.slice y1 yn1 yc1) ∧ w'.cell? ⟨w.heap.size + 1, 2, none⟩ = some (.bool yb2) ∧ w'.cell? ⟨w.heap.size + 1, 3, none⟩ = some (.slice y2 yn2 yc2) ∧ w'.cell? ⟨w.heap.size + 1 + 1, 0, none⟩ = some (.bool zb1) ∧ w'.cell? ⟨w.heap.size + 1 + 1, 1, none⟩ = some (.slice z1 zn1 zc1) ∧ w'.cell? ⟨w.heap.size + 1 + 1, 2, none⟩ = some (.bool zb2) ∧ w'.cell? ⟨w.heap.size + 1 + 1, 3, none⟩ = some (.slice z2 zn2 zc2))) (by kernel_rfl) (by (try dsimp only); exact ⟨(HBx.out.keep BC.out).d0, (HBx.out.keep BC.out).d1, (HBx.out.keep BC.out).d2, (HBx.out.keep BC.out).d3, (HBy.out.keep BC.out).d0, (HBy.out.keep BC.out).d1, (HBy.out.keep BC.out).d2, (HBy.out.keep BC.out).d3, (HBz.out.keep BC.out).d0, (HBz.out.keep BC.out).d1, (HBz.out.keep BC.out).d2, (HBz.out.keep BC.out).d3⟩) (fun hHeld => ?_)
  refine' tk_any 0 7 (v := _) ?hi12016 ?hd12016 (by kernel_rfl) (by kernel_rfl) (by kernel_rfl) (fun _ _ _ h => h) ?hy12016 hHeld ?hr12016
  case hi12016 => (simp only [List.getElem?_toArray, List.getElem?_cons_zero]; rfl)
  case hd12016 => rfl
  case hy12016 =>
    refine' Or.inl ⟨?hw12016, ?hx12016⟩
    case hw12016 => rfl
    case hx12016 => (intro w hSw; (try dsimp only at hSw); go_simp; (try with_reducible rfl))
  (try simp only [Act.put, List.setIfInBounds_toArray, List.set_cons_zero, List.set_cons_succ])
  refine' tk_any 1 8 (v := _) ?hi12017 ?hd12017 (by kernel_rfl) (by kernel_rfl) (by kernel_rfl) (fun _ _ _ h => h) ?hy12017 hHeld ?hr12017
  case hi12017 => (simp only [List.getElem?_toArray, List.getElem?_cons_succ, List.getElem?_cons_zero]; rfl)
  case hd12017 => rfl
  case hy12017 =>
    refine' Or.inl ⟨?hw12017, ?hx12017⟩
    case hw12017 => rfl
    case hx12017 => (intro w hSw; (try dsimp only at hSw); go_simp; (try with_reducible rfl))
  (try simp only [Act.put, List.setIfInBounds_toArray, List.set_cons_zero, List.set_cons_succ])
  refine' tk_any 2 9 (v := _) ?hi12018 ?hd12018 (by kernel_rfl) (by kernel_rfl) (by kernel_rfl) (fun _ _ _ h => h) ?hy12018 hHeld ?hr12018
  case hi12018 => (simp only [List.getElem?_toArray, List.getElem?_cons_succ, List.getElem?_cons_zero]; rfl)
  case hd12018 => rfl
  case hy12018 =>
    refine' Or.inl ⟨?hw12018, ?hx12018⟩
    case hw12018 => rfl
    case hx12018 => (intro w hSw; (try dsimp only at hSw); go_simp; (try with_reducible rfl))
  (try simp only [Act.put, List.setIfInBounds_toArray, List.set_cons_zero, List.set_cons_succ])
  refine' tk_any 3 10 (v := _) ?hi12019 ?hd12019 (by kernel_rfl) (by kernel_rfl) (by kernel_rfl) (fun _ _ _ h => h) ?hy12019 hHeld ?hr12019
  case hi12019 => (simp only [List.getElem?_toArray, List.getElem?_cons_succ, List.getElem?_cons_zero]; rfl)
  case hd12019 => rfl
  case hy12019 =>
    refine' Or.inl ⟨?hw12019, ?hx12019⟩
    case hw12019 => rfl
    case hx12019 => (intro w hSw; (try dsimp only at hSw); go_simp; (try with_reducible rfl))
  (try simp only [Act.put, List.setIfInBounds_toArray, List.set_cons_zero, List.set_cons_succ])
  refine' tk_any 5 12 (v := _) ?hi12020 ?hd12020 (by kernel_rfl) (by kernel_rfl) (by kernel_rfl) (fun _ _ _ h => h) ?hy12020 hHeld ?hr12020
  case hi12020 => (simp only [List.getElem?_toArray, List.getElem?_cons_succ, List.getElem?_cons_zero]; rfl)
  case hd12020 => rfl
  case hy12020 =>
    refine' Or.inl ⟨?hw12020, ?hx12020⟩
    case hw12020 => rfl
    case hx12020 => (intro w hSw; (try dsimp only at hSw); go_simp; (try with_reducible rfl))
  (try simp only [Act.put, List.setIfInBounds_toArray, List.set_cons_zero, List.set_cons_succ])
  refine' tk_any 6 13 (v := _) ?hi12021 ?hd12021 (by kernel_rfl) (by kernel_rfl) (by kernel_rfl) (fun _ _ _ h => h) ?hy12021 hHeld ?hr12021
  case hi12021 => (simp only [List.getElem?_toArray, List.getElem?_cons_succ, List.getElem?_cons_zero]; rfl)
  case hd12021 => rfl
  case hy12021 =>
    refine' Or.inl ⟨?hw12021, ?hx12021⟩
    case hw12021 => rfl
    case hx12021 => (intro w hSw; (try dsimp only at hSw); go_simp; (try with_reducible rfl))
  (try simp only [Act.put, List.setIfInBounds_toArray, List.set_cons_zero, List.set_cons_succ])
  refine' tk_any 7 14 (v := _) ?hi12022 ?hd12022 (by kernel_rfl) (by kernel_rfl) (by kernel_rfl) (fun _ _ _ h => h) ?hy12022 hHeld ?hr12022
  case hi12022 => (simp only [List.getElem?_toArray, List.getElem?_cons_succ, List.getElem?_cons_zero]; rfl)
  case hd12022 => rfl
  case hy12022 =>
    refine' Or.inl ⟨?hw12022, ?hx12022⟩
    case hw12022 => rfl
    case hx12022 => (intro w hSw; (try dsimp only at hSw); go_simp; (try with_reducible rfl))
  (try simp only [Act.put, List.setIfInBounds_toArray, List.set_cons_zero, List.set_cons_succ])
  refine' tk_any 8 15 (v := _) ?hi12023 ?hd12023 (by kernel_rfl) (by kernel_rfl) (by kernel_rfl) (fun _ _ _ h => h) ?hy12023 hHeld ?hr12023
  case hi12023 => (simp only [List.getElem?_toArray, List.getElem?_cons_succ, List.getElem?_cons_zero]; rfl)
  case hd12023 => rfl
  case hy12023 =>
    refine' Or.inl ⟨?hw12023, ?hx12023⟩
    case hw12023 => rfl
    case hx12023 => (intro w hSw; (try dsimp only at hSw); go_simp; (try with_reducible rfl))
  (try simp only [Act.put, List.setIfInBounds_toArray, List.set_cons_zero, List.set_cons_succ])
  refine' tk_any 11 18 (v := _) ?hi12024 ?hd12024 (by kernel_rfl) (by kernel_rfl) (by kernel_rfl) (fun _ _ _ h => h) ?hy12024 hHeld ?hr12024
  case hi12024 => (simp only [List.getElem?_toArray, List.getElem?_cons_succ, List.getElem?_cons_zero]; rfl)
  case hd12024 => rfl
  case hy12024 =>
    refine' Or.inl ⟨?hw12024, ?hx12024⟩
    case hw12024 => rfl
    case hx12024 => (intro w hSw; (try dsimp only at hSw); go_simp; (try with_reducible rfl))
  (try simp only [Act.put, List.setIfInBounds_toArray, List.set_cons_zero, List.set_cons_succ])
  refine' tk_any 12 19 (v := _) ?hi12025 ?hd12025 (by kernel_rfl) (by kernel_rfl) (by kernel_rfl) (fun _ _ _ h => h) ?hy12025 hHeld ?hr12025
  case hi12025 => (simp only [List.getElem?_toArray, List.getElem?_cons_succ, List.getElem?_cons_zero]; rfl)
  case hd12025 => rfl
  case hy12025 =>
    refine' Or.inl ⟨?hw12025, ?hx12025⟩
    case hw12025 => rfl
    case hx12025 => (intro w hSw; (try dsimp only at hSw); go_simp; (try with_reducible rfl))
  (try simp only [Act.put, List.setIfInBounds_toArray, List.set_cons_zero, List.set_cons_succ])
  refine' tk_any 13 20 (v := _) ?hi12026 ?hd12026 (by kernel_rfl) (by kernel_rfl) (by kernel_rfl) (fun _ _ _ h => h) ?hy12026 hHeld ?hr12026
  case hi12026 => (simp only [List.getElem?_toArray, List.getElem?_cons_succ, List.getElem?_cons_zero]; rfl)
  case hd12026 => rfl
  case hy12026 =>
    refine' Or.inl ⟨?hw12026, ?hx12026⟩
    case hw12026 => rfl
    case hx12026 => (intro w hSw; (try dsimp only at hSw); go_simp; (try with_reducible rfl))
  (try simp only [Act.put, List.setIfInBounds_toArray, List.set_cons_zero, List.set_cons_succ])
  refine' tk_any 14 21 (v := _) ?hi12027 ?hd12027 (by kernel_rfl) (by kernel_rfl) (by kernel_rfl) (fun _ _ _ h => h) ?hy12027 hHeld ?hr12027
  case hi12027 => (simp only [List.getElem?_toArray, List.getElem?_cons_succ, List.getElem?_cons_zero]; rfl)
  case hd12027 => rfl
  case hy12027 =>
    refine' Or.inl ⟨?hw12027, ?hx12027⟩
    case hw12027 => rfl
    case hx12027 => (intro w hSw; (try dsimp only at hSw); go_simp; (try with_reducible rfl))
  (try simp only [Act.put, List.setIfInBounds_toArray, List.set_cons_zero, List.set_cons_succ])
  refine' tk_any 16 23 (v := _) ?hi12028 ?hd12028 (by kernel_rfl) (by kernel_rfl) (by kernel_rfl) (fun _ _ _ h => h) ?hy12028 hHeld ?hr12028
  case hi12028 => (simp only [List.getElem?_toArray, List.getElem?_cons_succ, List.getElem?_cons_zero]; rfl)
  case hd12028 => rfl
  case hy12028 =>
    refine' Or.inl ⟨?hw12028, ?hx12028⟩
    case hw12028 => rfl
    case hx12028 => (intro w hSw; (try dsimp only at hSw); go_simp; (try with_reducible rfl))
  (try simp only [Act.put, List.setIfInBounds_toArray, List.set_cons_zero, List.set_cons_succ])
  refine' tk_any 17 24 (v := _) ?hi12029 ?hd12029 (by kernel_rfl) (by kernel_rfl) (by kernel_rfl) (fun _ _ _ h => h) ?hy12029 hHeld ?hr12029
  case hi12029 => (simp only [List.getElem?_toArray, List.getElem?_cons_succ, List.getElem?_cons_zero]; rfl)
  case hd12029 => rfl
  case hy12029 =>
    refine' Or.inl ⟨?hw12029, ?hx12029⟩
    case hw12029 => rfl
    case hx12029 => (intro w hSw; (try dsimp only at hSw); go_simp; (try with_reducible rfl))
  (try simp only [Act.put, List.setIfInBounds_toArray, List.set_cons_zero, List.set_cons_succ])
  refine' tk_any 18 25 (v := _) ?hi12030 ?hd12030 (by kernel_rfl) (by kernel_rfl) (by kernel_rfl) (fun _ _ _ h => h) ?hy12030 hHeld ?hr12030
  case hi12030 => (simp only [List.getElem?_toArray, List.getElem?_cons_succ, List.getElem?_cons_zero]; rfl)
  case hd12030 => rfl
  case hy12030 =>
    refine' Or.inl ⟨?hw12030, ?hx12030⟩
    case hw12030 => rfl
    case hx12030 => (intro w hSw; (try dsimp only at hSw); go_simp; (try with_reducible rfl))
  (try simp only [Act.put, List.setIfInBounds_toArray, List.set_cons_zero, List.set_cons_succ])
  refine' tk_any 19 26 (v := _) ?hi12031 ?hd12031 (by kernel_rfl) (by kernel_rfl) (by kernel_rfl) (fun _ _ _ h => h) ?hy12031 hHeld ?hr12031
  case hi12031 => (simp only [List.getElem?_toArray, List.getElem?_cons_succ, List.getElem?_cons_zero]; rfl)
  case hd12031 => rfl
  case hy12031 =>
    refine' Or.inl ⟨?hw12031, ?hx12031⟩
    case hw12031 => rfl
    case hx12031 => (intro w hSw; (try dsimp only at hSw); go_simp; (try with_reducible rfl))
  (try simp only [Act.put, List.setIfInBounds_toArray, List.set_cons_zero, List.set_cons_succ])
  refine' tk_call 4 ?hi12032 (by kernel_rfl) ?hr12032
  case hi12032 => (simp only [List.getElem?_toArray, List.getElem?_cons_succ, List.getElem?_cons_zero]; rfl)
  intro K hK
  go_simp
  go_at_call 15
  refine ((show Calls _ _ #[.agg #[.bool xb1, .slice x1 xn1 xc1], .agg #[.bool yb1, .slice y1 yn1 yc1]] _ _ by rw [HVx1.out, HVy1.out]; exact pand_go _ _ _ _ _ _ _ _ xF yF _ (by have := HBD.out; omega) HNx1.out HNy1.out (Hx1.out.below BC.out) (Hy1.out.below BC.out))).mono ?_
  rintro e wz1 ⟨⟨v, rfl, pa, pc, rfl, hf⟩, hb⟩
  obtain ⟨pF, hpF⟩ : ∃ F, F = andF xF yF := ⟨_, rfl⟩
  rw [← hpF] at hf ⊢
  obtain ⟨pn, hpn⟩ : ∃ n, n = pF.l.length := ⟨_, rfl⟩
  obtain ⟨pb, hpb⟩ : ∃ n, n = pF.never := ⟨_, rfl⟩
  rw [← hpn] at hf ⊢
  rw [← hpb]
  have HFp := Lib.hid (hf.mono (B' := W.heap.size) (by have := BC.out.size; omega))
  have HXp := Lib.hid hpF
  have HNp := Lib.hid hpn
  have HVp := Lib.hid hpb
  have HDp := Lib.hid (show pn ≤ 2000 by have h := andF_len xF yF; rw [← hpF, ← hpn, ← HNx1.out, ← HNy1.out] at h; have := HBD.out; omega)
  replace BC := Lib.hid (BC.out.trans (hb.mono BC.out.size))
  clear hb hf hpF hpn hpb
  go_wp2_with fail
  clear hHeld
  refine hK.out _ _ (by (try dsimp only); exact ⟨(HBx.out.keep BC.out).d0, (HBx.out.keep BC.out).d1, (HBx.out.keep BC.out).d2, (HBx.out.keep BC.out).d3, (HBy.out.keep BC.out).d0, (HBy.out.keep BC.out).d1, (HBy.out.keep BC.out).d2, (HBy.out.keep BC.out).d3, (HBz.out.keep BC.out).d0, (HBz.out.keep BC.out).d1, (HBz.out.keep BC.out).d2, (HBz.out.keep BC.out).d3⟩) (fun hHeld => ?_)
  clear hK K
  (try simp only [Act.put, List.setIfInBounds_toArray, List.set_cons_zero, List.set_cons_succ])
  refine' tk_call 9 ?hi12033 (by kernel_rfl) ?hr12033
  case hi12033 => (simp only [List.getElem?_toArray, List.getElem?_cons_succ, List.getElem?_cons_zero]; rfl)
  intro K hK
  go_simp
  go_at_call 15
  refine ((show Calls _ _ #[.agg #[.bool xb2, .slice x2 xn2 xc2], .agg #[.bool zb1, .slice z1 zn1 zc1]] _ _ by rw [HVx2.out, HVz1.out]; exact pand_go _ _ _ _ _ _ _ _ xG zF _ (by have := HBD.out; omega) HNx2.out HNz1.out (Hx2.out.below BC.out) (Hz1.out.below BC.out))).mono ?_
  rintro e wz2 ⟨⟨v, rfl, qa, qc, rfl, hf⟩, hb⟩
  replace HFp := Lib.hid (HFp.out.below hb)
  obtain ⟨qF, hqF⟩ : ∃ F, F = andF xG zF := ⟨_, rfl⟩
  rw [← hqF] at hf ⊢
  obtain ⟨qn, hqn⟩ : ∃ n, n = qF.l.length := ⟨_, rfl⟩
  obtain ⟨qb, hqb⟩ : ∃ n, n = qF.never := ⟨_, rfl⟩
  rw [← hqn] at hf ⊢
  rw [← hqb]
  have HFq := Lib.hid (hf.mono (B' := W.heap.size) (by have := BC.out.size; omega))
  have HXq := Lib.hid hqF
  have HNq := Lib.hid hqn
  have HVq := Lib.hid hqb
  have HDq := Lib.hid (show qn ≤ 2000 by have h := andF_len xG zF; rw [← hqF, ← hqn, ← HNx2.out, ← HNz1.out] at h; have := HBD.out; omega)
  replace BC := Lib.hid (BC.out.trans (hb.mono BC.out.size))
  clear hb hf hqF hqn hqb
  go_wp2_with fail
  clear hHeld
  refine hK.out _ _ (by (try dsimp only); exact ⟨(HBx.out.keep BC.out).d0, (HBx.out.keep BC.out).d1, (HBx.out.keep BC.out).d2, (HBx.out.keep BC.out).d3, (HBy.out.keep BC.out).d0, (HBy.out.keep BC.out).d1, (HBy.out.keep BC.out).d2, (HBy.out.keep BC.out).d3, (HBz.out.keep BC.out).d0, (HBz.out.keep BC.out).d1, (HBz.out.keep BC.out).d2, (HBz.out.keep BC.out).d3⟩) (fun hHeld => ?_)
  clear hK K
  (try simp only [Act.put, List.setIfInBounds_toArray, List.set_cons_zero, List.set_cons_succ])
  refine' tk_call 10 ?hi12034 (by kernel_rfl) ?hr12034
  case hi12034 => (simp only [List.getElem?_toArray, List.getElem?_cons_succ, List.getElem?_cons_zero]; rfl)
  intro K hK
  go_simp
  go_at_call 17
  refine ((show Calls _ _ #[.agg #[.bool pb, .slice pa pn pc], .agg #[.bool qb, .slice qa qn qc]] _ _ by rw [HVp.out, HVq.out]; exact por_go _ _ _ _ _ _ _ _ pF qF _ (by have := HDp.out; have := HDq.out; omega) HNp.out HNq.out HFp.out HFq.out)).mono ?_
  rintro e wz3 ⟨⟨v, rfl, ra, rc, rfl, hf⟩, hb⟩
  replace HFp := Lib.hid (HFp.out.below hb)
  replace HFq := Lib.hid (HFq.out.below hb)
  obtain ⟨rF, hrF⟩ : ∃ F, F = orF pF qF := ⟨_, rfl⟩
  rw [← hrF] at hf ⊢
  obtain ⟨rn, hrn⟩ : ∃ n, n = rF.l.length := ⟨_, rfl⟩
  obtain ⟨rb, hrb⟩ : ∃ n, n = rF.never := ⟨_, rfl⟩
  rw [← hrn] at hf ⊢
  rw [← hrb]
  have HFr := Lib.hid (hf.mono (B' := W.heap.size) (by have := BC.out.size; omega))
  have HXr := Lib.hid hrF
  have HNr := Lib.hid hrn
  have HVr := Lib.hid hrb
  have HDr := Lib.hid (show rn ≤ 2000 by have h := orF_len pF qF; rw [← hrF, ← hrn, ← HNp.out, ← HNq.out] at h; have := HDp.out; have := HDq.out; omega)
  replace BC := Lib.hid (BC.out.trans (hb.mono BC.out.size))
  clear hb hf hrF hrn hrb
  go_wp2_with fail
  clear hHeld
  refine hK.out _ _ (by (try dsimp only); exact ⟨(HBx.out.keep BC.out).d0, (HBx.out.keep BC.out).d1, (HBx.out.keep BC.out).d2, (HBx.out.keep BC.out).d3, (HBy.out.keep BC.out).d0, (HBy.out.keep BC.out).d1, (HBy.out.keep BC.out).d2, (HBy.out.keep BC.out).d3, (HBz.out.keep BC.out).d0, (HBz.out.keep BC.out).d1, (HBz.out.keep BC.out).d2, (HBz.out.keep BC.out).d3⟩) (fun hHeld => ?_)
  clear hK K
  (try simp only [Act.put, List.setIfInBounds_toArray, List.set_cons_zero, List.set_cons_succ])
  refine' tk_call 15 ?hi12035 (by kernel_rfl) ?hr12035
  case hi12035 => (simp only [List.getElem?_toArray, List.getElem?_cons_succ, List.getElem?_cons_zero]; rfl)
  intro K hK
  go_simp
  go_at_call 15
  refine ((show Calls _ _ #[.agg #[.bool xb1, .slice x1 xn1 xc1], .agg #[.bool yb2, .slice y2 yn2 yc2]] _ _ by rw [HVx1.out, HVy2.out]; exact pand_go _ _ _ _ _ _ _ _ xF yG _ (by have := HBD.out; omega) HNx1.out HNy2.out (Hx1.out.below BC.out) (Hy2.out.below BC.out))).mono ?_
  rintro e wz4 ⟨⟨v, rfl, sa, sc, rfl, hf⟩, hb⟩
  replace HFp := Lib.hid (HFp.out.below hb)
  replace HFq := Lib.hid (HFq.out.below hb)
  replace HFr := Lib.hid (HFr.out.below hb)
  obtain ⟨sF, hsF⟩ : ∃ F, F = andF xF yG := ⟨_, rfl⟩
  rw [← hsF] at hf ⊢
  obtain ⟨sn, hsn⟩ : ∃ n, n = sF.l.length := ⟨_, rfl⟩
  obtain ⟨sb, hsb⟩ : ∃ n, n = sF.never := ⟨_, rfl⟩
  rw [← hsn] at hf ⊢
  rw [← hsb]
  have HFs := Lib.hid (hf.mono (B' := W.heap.size) (by have := BC.out.size; omega))
  have HXs := Lib.hid hsF
  have HNs := Lib.hid hsn
  have HVs := Lib.hid hsb
  have HDs := Lib.hid (show sn ≤ 2000 by have h := andF_len xF yG; rw [← hsF, ← hsn, ← HNx1.out, ← HNy2.out] at h; have := HBD.out; omega)
  replace BC := Lib.hid (BC.out.trans (hb.mono BC.out.size))
  clear hb hf hsF hsn hsb
  go_wp2_with fail
  clear hHeld
  refine hK.out _ _ (by (try dsimp only); exact ⟨(HBx.out.keep BC.out).d0, (HBx.out.keep BC.out).d1, (HBx.out.keep BC.out).d2, (HBx.out.keep BC.out).d3, (HBy.out.keep BC.out).d0, (HBy.out.keep BC.out).d1, (HBy.out.keep BC.out).d2, (HBy.out.keep BC.out).d3, (HBz.out.keep BC.out).d0, (HBz.out.keep BC.out).d1, (HBz.out.keep BC.out).d2, (HBz.out.keep BC.out).d3⟩) (fun hHeld => ?_)
  clear hK K
  (try simp only [Act.put, List.setIfInBounds_toArray, List.set_cons_zero, List.set_cons_succ])
  refine' tk_call 20 ?hi12036 (by kernel_rfl) ?hr12036
  case hi12036 => (simp only [List.getElem?_toArray, List.getElem?_cons_succ, List.getElem?_cons_zero]; rfl)
  intro K hK
  go_simp
  go_at_call 15
  refine ((show Calls _ _ #[.agg #[.bool xb2, .slice x2 xn2 xc2], .agg #[.bool zb2, .slice z2 zn2 zc2]] _ _ by rw [HVx2.out, HVz2.out]; exact pand_go _ _ _ _ _ _ _ _ xG zG _ (by have := HBD.out; omega) HNx2.out HNz2.out (Hx2.out.below BC.out) (Hz2.out.below BC.out))).mono ?_
  rintro e wz5 ⟨⟨v, rfl, ta, tc, rfl, hf⟩, hb⟩
  replace HFp := Lib.hid (HFp.out.below hb)
  replace HFq := Lib.hid (HFq.out.below hb)
  replace HFr := Lib.hid (HFr.out.below hb)
  replace HFs := Lib.hid (HFs.out.below hb)
  obtain ⟨tF, htF⟩ : ∃ F, F = andF xG zG := ⟨_, rfl⟩
  rw [← htF] at hf ⊢
  obtain ⟨tn, htn⟩ : ∃ n, n = tF.l.length := ⟨_, rfl⟩
  obtain ⟨tb, htb⟩ : ∃ n, n = tF.never := ⟨_, rfl⟩
  rw [← htn] at hf ⊢
  rw [← htb]
  have HFt := Lib.hid (hf.mono (B' := W.heap.size) (by have := BC.out.size; omega))
  have HXt := Lib.hid htF
  have HNt := Lib.hid htn
  have HVt := Lib.hid htb
  have HDt := Lib.hid (show tn ≤ 2000 by have h := andF_len xG zG; rw [← htF, ← htn, ← HNx2.out, ← HNz2.out] at h; have := HBD.out; omega)
  replace BC := Lib.hid (BC.out.trans (hb.mono BC.out.size))
  clear hb hf htF htn htb
  go_wp2_with fail
  clear hHeld
  refine hK.out _ _ (by (try dsimp only); exact ⟨(HBx.out.keep BC.out).d0, (HBx.out.keep BC.out).d1, (HBx.out.keep BC.out).d2, (HBx.out.keep BC.out).d3, (HBy.out.keep BC.out).d0, (HBy.out.keep BC.out).d1, (HBy.out.keep BC.out).d2, (HBy.out.keep BC.out).d3, (HBz.out.keep BC.out).d0, (HBz.out.keep BC.out).d1, (HBz.out.keep BC.out).d2, (HBz.out.keep BC.out).d3⟩) (fun hHeld => ?_)
  clear hK K
  (try simp only [Act.put, List.setIfInBounds_toArray, List.set_cons_zero, List.set_cons_succ])
  refine' tk_call 21 ?hi12037 (by kernel_rfl) ?hr12037
  case hi12037 => (simp only [List.getElem?_toArray, List.getElem?_cons_succ, List.getElem?_cons_zero]; rfl)
  intro K hK
  go_simp
  go_at_call 17
  refine ((show Calls _ _ #[.agg #[.bool sb, .slice sa sn sc], .agg #[.bool tb, .slice ta tn tc]] _ _ by rw [HVs.out, HVt.out]; exact por_go _ _ _ _ _ _ _ _ sF tF _ (by have := HDs.out; have := HDt.out; omega) HNs.out HNt.out HFs.out HFt.out)).mono ?_
  rintro e wz6 ⟨⟨v, rfl, ua, uc, rfl, hf⟩, hb⟩
  replace HFp := Lib.hid (HFp.out.below hb)
  replace HFq := Lib.hid (HFq.out.below hb)
  replace HFr := Lib.hid (HFr.out.below hb)
  replace HFs := Lib.hid (HFs.out.below hb)
  replace HFt := Lib.hid (HFt.out.below hb)
  obtain ⟨uF, huF⟩ : ∃ F, F = orF sF tF := ⟨_, rfl⟩
  rw [← huF] at hf ⊢
  obtain ⟨un, hun⟩ : ∃ n, n = uF.l.length := ⟨_, rfl⟩
  obtain ⟨ub, hub⟩ : ∃ n, n = uF.never := ⟨_, rfl⟩
  rw [← hun] at hf ⊢
  rw [← hub]
  have HFu := Lib.hid (hf.mono (B' := W.heap.size) (by have := BC.out.size; omega))
  have HXu := Lib.hid huF
  have HNu := Lib.hid hun
  have HVu := Lib.hid hub
  have HDu := Lib.hid (show un ≤ 2000 by have h := orF_len sF tF; rw [← huF, ← hun, ← HNs.out, ← HNt.out] at h; have := HDs.out; have := HDt.out; omega)
  replace BC := Lib.hid (BC.out.trans (hb.mono BC.out.size))
  clear hb hf huF hun hub
  go_wp2_with fail
  clear hHeld
  refine hK.out _ _ (by (try dsimp only); exact ⟨(HBx.out.keep BC.out).d0, (HBx.out.keep BC.out).d1, (HBx.out.keep BC.out).d2, (HBx.out.keep BC.out).d3, (HBy.out.keep BC.out).d0, (HBy.out.keep BC.out).d1, (HBy.out.keep BC.out).d2, (HBy.out.keep BC.out).d3, (HBz.out.keep BC.out).d0, (HBz.out.keep BC.out).d1, (HBz.out.keep BC.out).d2, (HBz.out.keep BC.out).d3⟩) (fun hHeld => ?_)
  clear hK K
  (try simp only [Act.put, List.setIfInBounds_toArray, List.set_cons_zero, List.set_cons_succ])
  refine' tk_any 22 29 (v := _) ?hi12038 ?hd12038 (by kernel_rfl) (by kernel_rfl) (by kernel_rfl) (fun _ _ _ h => h) ?hy12038 hHeld ?hr12038
  case hi12038 => (simp only [List.getElem?_toArray, List.getElem?_cons_succ, List.getElem?_cons_zero]; rfl)
  case hd12038 => rfl
  case hy12038 =>
    refine' Or.inl ⟨?hw12038, ?hx12038⟩
    case hw12038 => rfl
    case hx12038 => (intro w hSw; (try dsimp only at hSw); go_simp; (try with_reducible rfl))
  (try simp only [Act.put, List.setIfInBounds_toArray, List.set_cons_zero, List.set_cons_succ])
  have hr := HR.out.keep BC.out
  have r0 := hr.d0
  have r1 := hr.d1
  have r2 := hr.d2
  have r3 := hr.d3
  have f0 := hr.fr 0
  have f1 := hr.fr 1
  have f2 := hr.fr 2
  have f3 := hr.fr 3
  clear hr
  refine' tk_call 23 ?hi12039 (by kernel_rfl) ?hr12039
  case hi12039 => (simp only [List.getElem?_toArray, List.getElem?_cons_succ, List.getElem?_cons_zero]; rfl)
  intro K hK
  go_simp
  clear hHeld
  refine hK.out _ _ (by (try dsimp only); exact ⟨set_blk (by omega) (set_blk (by omega) (set_blk (by omega) (set_blk (by omega) (HBx.out.keep BC.out).d0))), set_blk (by omega) (set_blk (by omega) (set_blk (by omega) (set_blk (by omega) (HBx.out.keep BC.out).d1))), set_blk (by omega) (set_blk (by omega) (set_blk (by omega) (set_blk (by omega) (HBx.out.keep BC.out).d2))), set_blk (by omega) (set_blk (by omega) (set_blk (by omega) (set_blk (by omega) (HBx.out.keep BC.out).d3))), set_blk (by omega) (set_blk (by omega) (set_blk (by omega) (set_blk (by omega) (HBy.out.keep BC.out).d0))), set_blk (by omega) (set_blk (by omega) (set_blk (by omega) (set_blk (by omega) (HBy.out.keep BC.out).d1))), set_blk (by omega) (set_blk (by omega) (set_blk (by omega) (set_blk (by omega) (HBy.out.keep BC.out).d2))), set_blk (by omega) (set_blk (by omega) (set_blk (by omega) (set_blk (by omega) (HBy.out.keep BC.out).d3))), set_blk (by omega) (set_blk (by omega) (set_blk (by omega) (set_blk (by omega) (HBz.out.keep BC.out).d0))), set_blk (by omega) (set_blk (by omega) (set_blk (by omega) (set_blk (by omega) (HBz.out.keep BC.out).d1))), set_blk (by omega) (set_blk (by omega) (set_blk (by omega) (set_blk (by omega) (HBz.out.keep BC.out).d2))), set_blk (by omega) (set_blk (by omega) (set_blk (by omega) (set_blk (by omega) (HBz.out.keep BC.out).d3)))⟩) (fun hHeld => ?_)
  clear hK K
  (try simp only [Act.put, List.setIfInBounds_toArray, List.set_cons_zero, List.set_cons_succ])
  refine wpAnyH_done (by kernel_rfl) ?_ _
  refine NoPanic.normal ?_
  go_wp2
  refine bodyPost_ret (v := .agg #[.bool rb, .slice ra rn rc, .bool ub, .slice ua un uc]) ?_ ?_ ?_
  · simp [results, Try.results33, go_sem, r0, r1, r2, r3]
  · rfl
  · exact pr_done (B := W.heap.size) (by omega) (by have := HSZ.out; omega) (by rw [HNr.out, HXr.out, HXp.out, HXq.out]) (by rw [HNu.out, HXu.out, HXs.out, HXt.out]) (by rw [HVr.out, HXr.out, HXp.out, HXq.out]) (by rw [HVu.out, HXu.out, HXs.out, HXt.out]) (by have h := HFr.out; rw [HXr.out, HXp.out, HXq.out] at h; exact h) (by have h := HFu.out; rw [HXu.out, HXs.out, HXt.out] at h; exact h) (HL.out.trans (BC.out.mono HL.out.size))
end Go.Proofs.Ytgjkobkcmgliaaa
