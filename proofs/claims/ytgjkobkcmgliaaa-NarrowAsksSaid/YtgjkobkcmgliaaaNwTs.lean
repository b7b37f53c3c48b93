import Derived.Test.YtgjkobkcmgliaaaNwF
import Derived.Test.YtgjkobkcmgliaaaNwG
namespace Go.Proofs.Ytgjkobkcmgliaaa
open Go.RowKit

set_option maxRecDepth 100000 in
set_option maxHeartbeats 16000000 in
/-- two props that are the same -/
theorem psame_go (B B' : Nat) (a1 a2 b1 b2 : Option Addr) (n1 n2 c1 c2 d1 d2 : Nat) (e1 e2 : Bool) (l k : List (Int × Int)) (w : World) (hm1 : n1 ≤ 10000) (hm2 : n2 ≤ 10000) (hn1 : n1 = l.length) (hn2 : n2 = k.length) (hx1 : FaB B w (.slice a1 n1 c1) l) (hx2 : FaB B w (.slice a2 n2 c2) k) (hy1 : FaB B' w (.slice b1 n1 d1) l) (hy2 : FaB B' w (.slice b2 n2 d2) k) :
    Calls Try.prog 10 #[.agg #[.bool e1, .slice a1 n1 c1, .bool e2, .slice a2 n2 c2], .agg #[.bool e1, .slice b1 n1 d1, .bool e2, .slice b2 n2 d2]] w fun e w' => e = .returned (.bool true) ∧ Below w.heap.size w w' := by
  obtain ⟨W, hW⟩ : ∃ W, W = (w.alloc (.cells #[.bool e1, .slice a1 n1 c1, .bool e2, .slice a2 n2 c2] 32)).alloc (.cells #[.bool e1, .slice b1 n1 d1, .bool e2, .slice b2 n2 d2] 38) := ⟨_, rfl⟩
  have HX := Lib.hid (show Bx W w.heap.size 32 #[.bool e1, .slice a1 n1 c1, .bool e2, .slice a2 n2 c2] by rw [hW]; exact alloc_past (alloc_at rfl) (by simp))
  have HY := Lib.hid (show Bx W (w.heap.size + 1) 38 #[.bool e1, .slice b1 n1 d1, .bool e2, .slice b2 n2 d2] by rw [hW]; exact alloc_at (by simp))
  have HL := Lib.hid (show Below w.heap.size w W by rw [hW]; exact ((Below.refl _ _).alloc (Nat.le_refl _) _).alloc (by simp) _)
  have H1 := Lib.hid (hx1.below HL.out)
  have H2 := Lib.hid (hx2.below HL.out)
  have H3 := Lib.hid (hy1.below HL.out)
  have H4 := Lib.hid (hy2.below HL.out)
  have HN := Lib.hid (show n1 = l.length ∧ n2 = k.length from ⟨hn1, hn2⟩)
  have HW := Lib.hid hW
  clear hn1 hn2 hx1 hx2 hy1 hy2 hW
  go_enter Try.func10, Try.ntmps10
  go_upto_region 1 with fail
  rw [← HW.out]
  have hb : Below W.heap.size W W.drew := (Below.refl _ _).drew
  replace H1 := Lib.hid (H1.out.below hb)
  replace H2 := Lib.hid (H2.out.below hb)
  replace H3 := Lib.hid (H3.out.below hb)
  replace H4 := Lib.hid (H4.out.below hb)
  replace HX := Lib.hid (HX.out.keep hb)
  replace HY := Lib.hid (HY.out.keep hb)
  replace HL := Lib.hid (HL.out.trans (hb.mono HL.out.size))
  clear hb
  (try dsimp only [List.append])
  refine wp_region_noPanic ?_
  refine wp_region_held_drew (S := (fun w' => (w'.cell? ⟨w.heap.size, 0, none⟩ = some (.bool e1) ∧ w'.cell? ⟨w.heap.size, 1, none⟩ = some (.slice a1 n1 c1) ∧ w'.cell? ⟨w.heap.size, 2, none⟩ = some (.bool e2) ∧ w'.cell? ⟨w.heap.size, 3, none⟩ = some (.slice a2 n2 c2)) ∧ w'.cell? ⟨w.heap.size + 1, 0, none⟩ = some (.bool e1) ∧ w'.cell? ⟨w.heap.size + 1, 1, none⟩ = some (.slice b1 n1 d1) ∧ w'.cell? ⟨w.heap.size + 1, 2, none⟩ = some (.bool e2) ∧ w'.cell? ⟨w.heap.size + 1, 3, none⟩ = some (.slice b2 n2 d2))) (by kernel_rfl) (by (try dsimp only); exact ⟨⟨HX.out.d0, HX.out.d1, HX.out.d2, HX.out.d3⟩, HY.out.d0, HY.out.d1, HY.out.d2, HY.out.d3⟩) (fun hHeld => ?_)
  generalize W.drew = A0 at hHeld HX HY HL H1 H2 H3 H4 ⊢
  refine' tk_any 0 7 (v := _) ?hi48001 ?hd48001 (by kernel_rfl) (by kernel_rfl) (by kernel_rfl) (fun _ _ _ h => h) ?hy48001 hHeld ?hr48001
  case hi48001 => (simp only [List.getElem?_toArray, List.getElem?_cons_zero]; rfl)
  case hd48001 => rfl
  case hy48001 =>
    refine' Or.inl ⟨?hw48001, ?hx48001⟩
    case hw48001 => rfl
    case hx48001 => (intro w hSw; (try dsimp only at hSw); go_simp; (try with_reducible rfl))
  (try simp only [Act.put, List.setIfInBounds_toArray, List.set_cons_zero, List.set_cons_succ])
  refine' tk_any 1 8 (v := _) ?hi48002 ?hd48002 (by kernel_rfl) (by kernel_rfl) (by kernel_rfl) (fun _ _ _ h => h) ?hy48002 hHeld ?hr48002
  case hi48002 => (simp only [List.getElem?_toArray, List.getElem?_cons_succ, List.getElem?_cons_zero]; rfl)
  case hd48002 => rfl
  case hy48002 =>
    refine' Or.inl ⟨?hw48002, ?hx48002⟩
    case hw48002 => rfl
    case hx48002 => (intro w hSw; (try dsimp only at hSw); go_simp; (try with_reducible rfl))
  (try simp only [Act.put, List.setIfInBounds_toArray, List.set_cons_zero, List.set_cons_succ])
  refine' tk_any 3 10 (v := _) ?hi48003 ?hd48003 (by kernel_rfl) (by kernel_rfl) (by kernel_rfl) (fun _ _ _ h => h) ?hy48003 hHeld ?hr48003
  case hi48003 => (simp only [List.getElem?_toArray, List.getElem?_cons_succ, List.getElem?_cons_zero]; rfl)
  case hd48003 => rfl
  case hy48003 =>
    refine' Or.inl ⟨?hw48003, ?hx48003⟩
    case hw48003 => rfl
    case hx48003 => (intro w hSw; (try dsimp only at hSw); go_simp; (try with_reducible rfl))
  (try simp only [Act.put, List.setIfInBounds_toArray, List.set_cons_zero, List.set_cons_succ])
  refine' tk_any 4 11 (v := _) ?hi48004 ?hd48004 (by kernel_rfl) (by kernel_rfl) (by kernel_rfl) (fun _ _ _ h => h) ?hy48004 hHeld ?hr48004
  case hi48004 => (simp only [List.getElem?_toArray, List.getElem?_cons_succ, List.getElem?_cons_zero]; rfl)
  case hd48004 => rfl
  case hy48004 =>
    refine' Or.inl ⟨?hw48004, ?hx48004⟩
    case hw48004 => rfl
    case hx48004 => (intro w hSw; (try dsimp only at hSw); go_simp; (try with_reducible rfl))
  (try simp only [Act.put, List.setIfInBounds_toArray, List.set_cons_zero, List.set_cons_succ])
  refine' tk_call 2 ?hi48005 (by kernel_rfl) ?hr48005
  case hi48005 => (simp only [List.getElem?_toArray, List.getElem?_cons_succ, List.getElem?_cons_zero]; rfl)
  intro K hK
  go_simp
  go_at_call 14
  refine (to_go _ a1 c1 n1 e1 l A0 (by omega) HN.out.1 H1.out).mono ?_
  rintro e A1 ⟨⟨v, rfl, Aa, Ac, rfl, hf⟩, hb⟩
  replace H1 := Lib.hid (H1.out.below hb)
  replace H2 := Lib.hid (H2.out.below hb)
  replace H3 := Lib.hid (H3.out.below hb)
  replace H4 := Lib.hid (H4.out.below hb)
  replace HX := Lib.hid (HX.out.keep hb)
  replace HY := Lib.hid (HY.out.keep hb)
  replace HL := Lib.hid (HL.out.trans (hb.mono HL.out.size))
  have HT := Lib.hid hf
  clear hf hb
  go_wp2_with fail
  clear hHeld
  refine hK.out _ _ (by (try dsimp only); exact ⟨⟨HX.out.d0, HX.out.d1, HX.out.d2, HX.out.d3⟩, HY.out.d0, HY.out.d1, HY.out.d2, HY.out.d3⟩) (fun hHeld => ?_)
  clear hK K
  (try simp only [Act.put, List.setIfInBounds_toArray, List.set_cons_zero, List.set_cons_succ])
  refine' tk_call 5 ?hi48006 (by kernel_rfl) ?hr48006
  case hi48006 => (simp only [List.getElem?_toArray, List.getElem?_cons_succ, List.getElem?_cons_zero]; rfl)
  intro K hK
  go_simp
  go_at_call 13
  have HT2 := Lib.hid (show FaB A0.heap.size A1 (.slice Aa n1 Ac) l by have h := HT.out; have e := HN.out.1; rw [e]; exact h)
  rw [show (Fcs.mk e1 l).l.length = n1 from (HN.out.1).symm]
  refine (fsame_go _ _ Aa b1 Ac d1 n1 e1 l A1 (by omega) HN.out.1 HT2.out H3.out).mono ?_
  rintro e A2 ⟨rfl, hb⟩
  replace H1 := Lib.hid (H1.out.below hb)
  replace H2 := Lib.hid (H2.out.below hb)
  replace H3 := Lib.hid (H3.out.below hb)
  replace H4 := Lib.hid (H4.out.below hb)
  replace HX := Lib.hid (HX.out.keep hb)
  replace HY := Lib.hid (HY.out.keep hb)
  replace HL := Lib.hid (HL.out.trans (hb.mono HL.out.size))
  clear hb HT HT2
  go_wp2_with fail
  clear hHeld
  refine hK.out _ _ (by (try dsimp only); exact ⟨⟨HX.out.d0, HX.out.d1, HX.out.d2, HX.out.d3⟩, HY.out.d0, HY.out.d1, HY.out.d2, HY.out.d3⟩) (fun hHeld => ?_)
  clear hK K
  (try simp only [Act.put, List.setIfInBounds_toArray, List.set_cons_zero, List.set_cons_succ])
  refine' tk_any 6 5 (v := _) ?hi48007 ?hd48007 (by kernel_rfl) (by kernel_rfl) (by kernel_rfl) (fun _ _ _ h => h) ?hy48007 hHeld ?hr48007
  case hi48007 => (simp only [List.getElem?_toArray, List.getElem?_cons_succ, List.getElem?_cons_zero]; rfl)
  case hd48007 => rfl
  case hy48007 =>
    refine' Or.inl ⟨?hw48007, ?hx48007⟩
    case hw48007 => rfl
    case hx48007 => (intro w hSw; (try dsimp only at hSw); go_simp; (try with_reducible rfl))
  (try simp only [Act.put, List.setIfInBounds_toArray, List.set_cons_zero, List.set_cons_succ])
  refine wpAnyH_done (by kernel_rfl) ?_ _
  refine NoPanic.normal ?_
  go_upto_region 2 with fail
  have hb : Below A2.heap.size A2 A2.drew := (Below.refl _ _).drew
  replace H1 := Lib.hid (H1.out.below hb)
  replace H2 := Lib.hid (H2.out.below hb)
  replace H3 := Lib.hid (H3.out.below hb)
  replace H4 := Lib.hid (H4.out.below hb)
  replace HX := Lib.hid (HX.out.keep hb)
  replace HY := Lib.hid (HY.out.keep hb)
  replace HL := Lib.hid (HL.out.trans (hb.mono HL.out.size))
  clear hb
  (try dsimp only [List.append])
  refine wp_region_noPanic ?_
  refine wp_region_held_drew (S := (fun w' => (w'.cell? ⟨w.heap.size, 0, none⟩ = some (.bool e1) ∧ w'.cell? ⟨w.heap.size, 1, none⟩ = some (.slice a1 n1 c1) ∧ w'.cell? ⟨w.heap.size, 2, none⟩ = some (.bool e2) ∧ w'.cell? ⟨w.heap.size, 3, none⟩ = some (.slice a2 n2 c2)) ∧ w'.cell? ⟨w.heap.size + 1, 0, none⟩ = some (.bool e1) ∧ w'.cell? ⟨w.heap.size + 1, 1, none⟩ = some (.slice b1 n1 d1) ∧ w'.cell? ⟨w.heap.size + 1, 2, none⟩ = some (.bool e2) ∧ w'.cell? ⟨w.heap.size + 1, 3, none⟩ = some (.slice b2 n2 d2))) (by kernel_rfl) (by (try dsimp only); exact ⟨⟨HX.out.d0, HX.out.d1, HX.out.d2, HX.out.d3⟩, HY.out.d0, HY.out.d1, HY.out.d2, HY.out.d3⟩) (fun hHeld => ?_)
  generalize A2.drew = E0 at hHeld HX HY HL H1 H2 H3 H4 ⊢
  refine' tk_any 0 13 (v := _) ?hi48008 ?hd48008 (by kernel_rfl) (by kernel_rfl) (by kernel_rfl) (fun _ _ _ h => h) ?hy48008 hHeld ?hr48008
  case hi48008 => (simp only [List.getElem?_toArray, List.getElem?_cons_zero]; rfl)
  case hd48008 => rfl
  case hy48008 =>
    refine' Or.inl ⟨?hw48008, ?hx48008⟩
    case hw48008 => rfl
    case hx48008 => (intro w hSw; (try dsimp only at hSw); go_simp; (try with_reducible rfl))
  (try simp only [Act.put, List.setIfInBounds_toArray, List.set_cons_zero, List.set_cons_succ])
  refine' tk_any 1 14 (v := _) ?hi48009 ?hd48009 (by kernel_rfl) (by kernel_rfl) (by kernel_rfl) (fun _ _ _ h => h) ?hy48009 hHeld ?hr48009
  case hi48009 => (simp only [List.getElem?_toArray, List.getElem?_cons_succ, List.getElem?_cons_zero]; rfl)
  case hd48009 => rfl
  case hy48009 =>
    refine' Or.inl ⟨?hw48009, ?hx48009⟩
    case hw48009 => rfl
    case hx48009 => (intro w hSw; (try dsimp only at hSw); go_simp; (try with_reducible rfl))
  (try simp only [Act.put, List.setIfInBounds_toArray, List.set_cons_zero, List.set_cons_succ])
  refine' tk_any 3 16 (v := _) ?hi48010 ?hd48010 (by kernel_rfl) (by kernel_rfl) (by kernel_rfl) (fun _ _ _ h => h) ?hy48010 hHeld ?hr48010
  case hi48010 => (simp only [List.getElem?_toArray, List.getElem?_cons_succ, List.getElem?_cons_zero]; rfl)
  case hd48010 => rfl
  case hy48010 =>
    refine' Or.inl ⟨?hw48010, ?hx48010⟩
    case hw48010 => rfl
    case hx48010 => (intro w hSw; (try dsimp only at hSw); go_simp; (try with_reducible rfl))
  (try simp only [Act.put, List.setIfInBounds_toArray, List.set_cons_zero, List.set_cons_succ])
  refine' tk_any 4 17 (v := _) ?hi48011 ?hd48011 (by kernel_rfl) (by kernel_rfl) (by kernel_rfl) (fun _ _ _ h => h) ?hy48011 hHeld ?hr48011
  case hi48011 => (simp only [List.getElem?_toArray, List.getElem?_cons_succ, List.getElem?_cons_zero]; rfl)
  case hd48011 => rfl
  case hy48011 =>
    refine' Or.inl ⟨?hw48011, ?hx48011⟩
    case hw48011 => rfl
    case hx48011 => (intro w hSw; (try dsimp only at hSw); go_simp; (try with_reducible rfl))
  (try simp only [Act.put, List.setIfInBounds_toArray, List.set_cons_zero, List.set_cons_succ])
  refine' tk_call 2 ?hi48012 (by kernel_rfl) ?hr48012
  case hi48012 => (simp only [List.getElem?_toArray, List.getElem?_cons_succ, List.getElem?_cons_zero]; rfl)
  intro K hK
  go_simp
  go_at_call 14
  refine (to_go _ a2 c2 n2 e2 k E0 (by omega) HN.out.2 H2.out).mono ?_
  rintro e E1 ⟨⟨v, rfl, Ea, Ec, rfl, hf⟩, hb⟩
  replace H1 := Lib.hid (H1.out.below hb)
  replace H2 := Lib.hid (H2.out.below hb)
  replace H3 := Lib.hid (H3.out.below hb)
  replace H4 := Lib.hid (H4.out.below hb)
  replace HX := Lib.hid (HX.out.keep hb)
  replace HY := Lib.hid (HY.out.keep hb)
  replace HL := Lib.hid (HL.out.trans (hb.mono HL.out.size))
  have HT := Lib.hid hf
  clear hf hb
  go_wp2_with fail
  clear hHeld
  refine hK.out _ _ (by (try dsimp only); exact ⟨⟨HX.out.d0, HX.out.d1, HX.out.d2, HX.out.d3⟩, HY.out.d0, HY.out.d1, HY.out.d2, HY.out.d3⟩) (fun hHeld => ?_)
  clear hK K
  (try simp only [Act.put, List.setIfInBounds_toArray, List.set_cons_zero, List.set_cons_succ])
  refine' tk_call 5 ?hi48013 (by kernel_rfl) ?hr48013
  case hi48013 => (simp only [List.getElem?_toArray, List.getElem?_cons_succ, List.getElem?_cons_zero]; rfl)
  intro K hK
  go_simp
  go_at_call 13
  have HT2 := Lib.hid (show FaB E0.heap.size E1 (.slice Ea n2 Ec) k by have h := HT.out; have e := HN.out.2; rw [e]; exact h)
  rw [show (Fcs.mk e2 k).l.length = n2 from (HN.out.2).symm]
  refine (fsame_go _ _ Ea b2 Ec d2 n2 e2 k E1 (by omega) HN.out.2 HT2.out H4.out).mono ?_
  rintro e E2 ⟨rfl, hb⟩
  replace H1 := Lib.hid (H1.out.below hb)
  replace H2 := Lib.hid (H2.out.below hb)
  replace H3 := Lib.hid (H3.out.below hb)
  replace H4 := Lib.hid (H4.out.below hb)
  replace HX := Lib.hid (HX.out.keep hb)
  replace HY := Lib.hid (HY.out.keep hb)
  replace HL := Lib.hid (HL.out.trans (hb.mono HL.out.size))
  clear hb HT HT2
  go_wp2_with fail
  clear hHeld
  refine hK.out _ _ (by (try dsimp only); exact ⟨⟨HX.out.d0, HX.out.d1, HX.out.d2, HX.out.d3⟩, HY.out.d0, HY.out.d1, HY.out.d2, HY.out.d3⟩) (fun hHeld => ?_)
  clear hK K
  (try simp only [Act.put, List.setIfInBounds_toArray, List.set_cons_zero, List.set_cons_succ])
  refine' tk_any 6 6 (v := _) ?hi48014 ?hd48014 (by kernel_rfl) (by kernel_rfl) (by kernel_rfl) (fun _ _ _ h => h) ?hy48014 hHeld ?hr48014
  case hi48014 => (simp only [List.getElem?_toArray, List.getElem?_cons_succ, List.getElem?_cons_zero]; rfl)
  case hd48014 => rfl
  case hy48014 =>
    refine' Or.inl ⟨?hw48014, ?hx48014⟩
    case hw48014 => rfl
    case hx48014 => (intro w hSw; (try dsimp only at hSw); go_simp; (try with_reducible rfl))
  (try simp only [Act.put, List.setIfInBounds_toArray, List.set_cons_zero, List.set_cons_succ])
  refine wpAnyH_done (by kernel_rfl) ?_ _
  refine NoPanic.normal ?_
  go_wp2
  refine bodyPost_ret (v := .bool true) ?_ ?_ ?_
  · simp [results, Try.results10, go_sem]
  · rfl
  · exact ⟨rfl, HL.out⟩
end Go.Proofs.Ytgjkobkcmgliaaa
