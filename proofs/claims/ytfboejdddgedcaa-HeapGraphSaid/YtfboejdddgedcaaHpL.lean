import Derived.Test.YtfboejdddgedcaaHpK
import Derived.OwnWalk
import Derived.Laws.CopyOwn
namespace Go.Proofs.Ytfboejdddgedcaa
open Go.RowKit

section
variable {w w' : World} {N M : Nat → Prop} {hb cap : Nat} {vw vs pw ps : Value} {W S P Z : List Nat}
/-- the two spaces change places -/
theorem HwM.swap (h : HwM w N hb cap vw vs pw ps W S P Z) : HwM ((((w.setCell ⟨hb, 1, none⟩ pw).setCell ⟨hb, 2, none⟩ ps).setCell ⟨hb, 3, none⟩ vw).setCell ⟨hb, 4, none⟩ vs) N hb cap pw ps vw vs P Z W S := by
  have k : ∀ {v : Value} {l : List Nat}, RowM w v l → v.ownBlock ≠ some hb → RowM ((((w.setCell ⟨hb, 1, none⟩ pw).setCell ⟨hb, 2, none⟩ ps).setCell ⟨hb, 3, none⟩ vw).setCell ⟨hb, 4, none⟩ vs) v l := fun hr hn => keep_hb (keep_hb (keep_hb (keep_hb hr hn) hn) hn) hn
  exact ⟨heap_setCell_same _ hb 4 _ _ _ (heap_setCell_same _ hb 3 _ _ _ (heap_setCell_same _ hb 2 _ _ _ (heap_setCell_same w hb 1 _ _ _ h.blk))), k h.r3 h.n3, k h.r4 h.n4, k h.r1 h.n1, k h.r2 h.n2, h.n3, h.n4, h.n1, h.n2, h.d34, h.d13.symm, h.d23.symm, h.d14.symm, h.d24.symm, h.d12,
    fun b hb => by
      have := h.out b hb
      exact ⟨by simpa [World.setCell] using this.1, this.2.1, this.2.2.2.2.1, this.2.2.2.2.2, this.2.2.1, this.2.2.2.1⟩⟩
theorem Ked.swap (h : Ked M w w') (hn : ¬ M hb) : Ked M w ((((w'.setCell ⟨hb, 1, none⟩ pw).setCell ⟨hb, 2, none⟩ ps).setCell ⟨hb, 3, none⟩ vw).setCell ⟨hb, 4, none⟩ vs) :=
  (((h.set (fun _ => hn) _).set (fun _ => hn) _).set (fun _ => hn) _).set (fun _ => hn) _
end
theorem HwM.mono {w : World} {N M : Nat → Prop} {hb cap : Nat} {vw vs pw ps : Value} {W S P Z : List Nat} (h : HwM w N hb cap vw vs pw ps W S P Z) (hM : ∀ b, M b → N b) : HwM w M hb cap vw vs pw ps W S P Z :=
  h.oth (Nat.le_refl _) (fun _ _ _ => rfl) fun b hb => ⟨.inl (hM b hb), (h.out b (hM b hb)).1⟩
/-- words copied over a row of as many -/
theorem run_copyU (w : World) {g n uc : Nat} {ua : Option Addr} {L m : List Nat} (h : RowM w (.slice (some ⟨g, 0, none⟩) n n) L) (hL : L.length = n) (src : SrcU w ua m) (hm : m.length = n) :
    ∃ w', (∀ ty, (Builtin.copy_ #[31, 31] ty #[.slice (some ⟨g, 0, none⟩) n n, .slice ua n uc]).run Try.prog w = .ok (goInt n) w') ∧ RowM w' (.slice (some ⟨g, 0, none⟩) n n) m ∧ w.grownBy w' (some g) := by
  obtain ⟨i0, hi, hz0, hz1, hz2⟩ := info_partsU Try.infoU
  have ht := Try.underlying31
  have hsz1 : (Try.prog.info? 32).map (·.size) = some 1 := by rw [hi]; simp [hz1]
  rcases src with ⟨rfl, rfl⟩ | ⟨a, rfl, hc⟩
  · obtain rfl : n = 0 := by simpa using hm.symm
    have e : L = [] := List.length_eq_zero_iff.1 hL
    subst e
    exact ⟨w, fun ty => run_copy_none (P := Try.prog) w _ _ ty 32 _ _ 0 0 0 uc ht hsz1 rfl, h, ⟨rfl, rfl, rfl, Nat.le_refl _, fun _ _ _ => rfl⟩⟩
  · rcases h.2 with ⟨e, _⟩ | ⟨g', cap, cur, e, hb, hg, h1, h2, h3, h4⟩
    · cases e
    · cases e
      have hr := fun ty => run_copy_row (P := Try.prog) w 31 31 ty 32 g 0 L.length L.length a L.length uc cur 32 (rowU m) ht hsz1 hg (by rw [rowU_len, hm]; exact (Nat.min_self _).symm) (SrcU.cells hc) (by rw [rowU_len]; omega) (rowU_one m)
      rw [rowU_len, hm] at hr
      refine ⟨_, hr, ⟨by simp [rowU], .inr ⟨g, _, _, by rw [hm], hb, setRow_heap w g cur _ _ (0, 0) hg, by omega, h2, ?_, ?_⟩⟩, ⟨rfl, rfl, rfl, by simp, fun k _ hk => setRow_other w g k _ (fun e => hk (by rw [e]))⟩⟩
      · simp only [List.size_toArray, List.length_append, List.length_take, List.length_drop, Array.length_toList, rowU_len]
        omega
      · have e2 : cur.toList.drop L.length = [] := List.drop_eq_nil_of_le (by rw [Array.length_toList]; omega)
        rw [Nat.zero_add, e2, List.take_zero, List.nil_append, List.append_nil]
        exact List.take_of_length_le (by rw [rowU_len]; omega)
theorem ne_of_low {w : World} {N : Nat → Prop} (h : ∀ b, N b → b < w.heap.size) {ga b : Nat} (hg : ga = w.heap.size) (hb : N b) (e : ga = b) : False := by have := h b hb; omega
theorem coll_empty (roots : List Nat) : collH [] roots = ([], roots) := by
  have h1 : orderH [] roots = [] := List.length_eq_zero_iff.1 (Nat.le_zero.1 (ord_len (orderH_ord [] roots)))
  unfold collH
  rw [h1]
  have h2 : roots.map (relocH [] []) = roots := by
    conv => rhs; rw [← List.map_id roots]
    exact List.map_congr_left fun x _ => reloc_none rfl
  rw [h2]
  rfl
/-- what a Collect leaves -/
def ColPost (N : Nat → Prop) (hb cap : Nat) (l : List Ob) (roots : List Nat) (w : World) (e : Ending) (w' : World) : Prop :=
  ∃ v, e = .returned v ∧ RowM w' v (collH l roots).2 ∧ (∀ b, v.ownBlock = some b → w.heap.size ≤ b) ∧ PhAt w' (fun b => N b ∨ v.ownBlock = some b) hb cap (collH l roots).1 ∧ Ked N w w'

set_option maxRecDepth 100000 in
set_option maxHeartbeats 8000000 in
theorem pcollect_any {w : World} {N : Nat → Prop} {hb cap : Nat} {l : List Ob} {u : Value} {roots : List Nat} {ok : Nat → Prop} (h : PhAt w N hb cap l) (hR : WdS w ok u roots) (hok : ∀ b, ok b → N b) (hlen : roots.length ≤ 1000000) :
    Calls Try.prog 16 #[.pointer (some ⟨hb, 0, none⟩), u] w (ColPost N hb cap l roots w) := by
  have hws := hR.small
  have HLOW := Lib.hid h.low
  obtain ⟨ua, uc, rfl⟩ := hR.val
  obtain ⟨i0, hi, hz0, hz1, hz2⟩ := info_partsU Try.infoU
  have HBY := Lib.hid (show i0.bytes * roots.length ≤ 281474976710656 by rw [hz2]; omega)
  have HSRC := Lib.hid (fun (w' : World) (hk : ∀ b, N b → w'.heap[b]? = w.heap[b]?) => show SrcU w' ua roots by
    rcases (hR.src (w' := w') fun b hb => ⟨h.low b (hok b hb), hk b (hok b hb)⟩).2 with h | h
    · exact h
    · rw [h]; exact SrcU.nil _ _)
  obtain ⟨vw, vs, pw, ps, W, S, Z, h1, h2⟩ := h
  obtain ⟨wa, wn, wk, rfl⟩ := h1.r1.form
  obtain ⟨pa, pn, pc, rfl⟩ := h1.r3.form
  have H1 := Lib.hid h1
  have H2 := Lib.hid h2
  have HWS := Lib.hid hws
  obtain ⟨n, hn⟩ : ∃ n, n = roots.length := ⟨_, rfl⟩
  rw [← hn] at hlen HBY ⊢
  have HN := Lib.hid hn
  clear h1 h2 hws hR hok hn
  go_enter Try.func16, Try.ntmps16
  go_wp2_with (at_make; refine wpList_make_full _ rfl _ _ 31 rfl 0 32 i0 (.int .u64 0) 1 Try.underlying31 hi hz0 hz1 .i64 .i64 n n n rfl rfl rfl rfl HBY.out (by unfold maxLen; omega) (Nat.zero_le _) ?_)
  intro w1 hown1 hg1
  have hb1 : Below w.heap.size w w1 := ⟨hg1.os, hg1.tape, hg1.output, hg1.size, fun k hk => hg1.block k hk nofun⟩
  have hs1 := HSRC.out w1 (fun b hb => hb1.block b (HLOW.out b hb))
  obtain ⟨L, hLl, hr1⟩ : ∃ L : List Nat, L.length = n ∧ RowM w1 (.slice (some ⟨w.heap.size, 0, none⟩) n n) L := by
    refine ⟨List.replicate n 0, by simp, ?_⟩
    unfold RowM
    rw [List.length_replicate, rowU_zero]
    have e : (madeCells #[Value.int .u64 0] n).toList = List.replicate n (Value.int .u64 0) := toList_madeCells_one _ n
    rw [e] at hown1
    exact hown1
  obtain ⟨w2, hcopy, hRow, hgr2⟩ := run_copyU w1 (uc := uc) hr1 hLl hs1 HN.out.symm
  have hb2 : Below w.heap.size w w2 := hb1.grown hgr2 hb1.size (fun k hk => by cases hk; exact Nat.le_refl _)
  obtain ⟨ga, hga⟩ : ∃ g, g = w.heap.size := ⟨_, rfl⟩
  rw [← hga] at hcopy hRow hb2 ⊢
  have HGE := Lib.hid hga
  clear hown1 hg1 hb1 hs1 hga hr1 hLl hgr2
  obtain ⟨N1, hN1⟩ : ∃ N1 : Nat → Prop, N1 = fun b => N b ∨ b = ga := ⟨_, rfl⟩
  have hga2 : ga < w2.heap.size := hRow.lt rfl
  have HB := Lib.hid (show HwM w2 N1 hb cap (.slice wa wn wk) vs (.slice pa pn pc) ps W S [] Z from H1.out.oth (by rw [HGE.out] at hb2; exact hb2.size) (fun k hk _ => hb2.block k (by rw [HGE.out]; exact hk)) (fun b hb5 => by
    rw [hN1] at hb5
    rcases hb5 with h | h
    · exact ⟨.inl h, by have := HLOW.out b h; have := HGE.out; omega⟩
    · exact ⟨.inr (by rw [h, HGE.out]; exact Nat.le_refl _), by rw [h]; exact hga2⟩))
  have HRW := Lib.hid hRow
  have HK := Lib.hid (show Ked N w w2 from (Ked.refl N w).then hb2 (fun i hi _ => by rw [HGE.out]; exact hi))
  have HNH := Lib.hid (fun (hN : N hb) => (H1.out.out hb hN).2.1 rfl)
  have HGA := Lib.hid (show ¬ ga = hb from fun e => by have := H1.out.lt; have := HGE.out; omega)
  have HVA := Lib.hid (show (Value.slice (some ⟨ga, 0, none⟩) n n).ownBlock ≠ some hb from fun e => HGA.out (by cases e; rfl))
  have HN1 := Lib.hid (show ∀ b, b = ga → N1 b by rw [hN1]; exact fun b h => .inr h)
  have HN2 := Lib.hid (show ∀ b, N b → N1 b by rw [hN1]; exact fun b h => .inl h)
  have HN3 := Lib.hid (show ∀ b, N1 b → N b ∨ b = ga by rw [hN1]; exact fun b h => h)
  have HGR := Lib.hid (fun (wd : World) (hr : RowM wd (.slice pa pn pc) []) => pgrow_any hr (usedH l) (Nat.le_trans H2.out.used H2.out.big))
  have HUS := Lib.hid (fun (wd : World) (hB : HwM wd N1 hb cap (.slice wa wn wk) vs (.slice pa pn pc) ps W S [] Z) => pused_any (w := wd) (N := N1) (l := l) ⟨_, _, _, _, W, S, Z, hB, H2.out⟩)
  clear hb2 hRow hga2 HBY HSRC hN1 hi hz0 hz1 hz2
  go_wp2
  go_cut [] from 15 to 27 (fun wx => ∃ v3 : Value, Hid (HwM wx N1 hb cap (.slice wa wn wk) vs v3 ps W S [] Z) ∧ Hid (RowM wx (.slice (some ⟨ga, 0, none⟩) n n) roots) ∧ Hid (Ked N w wx) ∧ Hid (RmU (usedH l) v3))
  case first =>
    (try dsimp only [List.append])
    refine wp_region_noPanic ?_
    refine wp_region_held_drew (S := (fun _ => True)) (by kernel_rfl) (by (try dsimp only); try exact trivial) (fun hHeld => ?_)
    have HBd := Lib.hid (show HwM w2.drew N1 hb cap (.slice wa wn wk) vs (.slice pa pn pc) ps W S [] Z from HB.out.drew 1)
    have HRd := Lib.hid (show RowM w2.drew (.slice (some ⟨ga, 0, none⟩) n n) roots from HRW.out.keep fun _ _ => rfl)
    have HKd := Lib.hid (show Ked N w w2.drew from HK.out.trans (Ked.drew N w2 1))
    clear HB HRW HK
    have HB := HBd
    have HRW := HRd
    have HK := HKd
    clear HBd HRd HKd
    generalize w2.drew = wd at hHeld HB HRW HK ⊢
    have c3 := HB.out.c3
    refine' tk_any 0 15 (v := _) ?hi1 ?hd1 (by kernel_rfl) (by kernel_rfl) (by kernel_rfl) (fun _ _ _ h => h) ?hy1 hHeld ?hr1
    case hi1 => (simp only [List.getElem?_toArray, List.getElem?_cons_zero]; rfl)
    case hd1 => rfl
    case hy1 =>
      refine' Or.inl ⟨?hw1, ?hx1⟩
      case hw1 => rfl
      case hx1 => (intro w hSw; (try dsimp only at hSw); go_simp; (try with_reducible rfl))
    (try simp only [Act.put, List.setIfInBounds_toArray, List.set_cons_zero, List.set_cons_succ])
    refine' tk_any 1 16 (v := _) ?hi2 ?hd2 (by kernel_rfl) (by kernel_rfl) (by kernel_rfl) (fun _ _ _ h => h) ?hy2 hHeld ?hr2
    case hi2 => (simp only [List.getElem?_toArray, List.getElem?_cons_succ, List.getElem?_cons_zero]; rfl)
    case hd2 => rfl
    case hy2 =>
      refine' Or.inl ⟨?hw2, ?hx2⟩
      case hw2 => rfl
      case hx2 => (intro w hSw; (try dsimp only at hSw); go_simp; (try with_reducible rfl))
    (try simp only [Act.put, List.setIfInBounds_toArray, List.set_cons_zero, List.set_cons_succ])
    refine' tk_any 2 17 (v := _) ?hi3 ?hd3 (by kernel_rfl) (by kernel_rfl) (by kernel_rfl) (fun _ _ _ h => h) ?hy3 hHeld ?hr3
    case hi3 => (simp only [List.getElem?_toArray, List.getElem?_cons_succ, List.getElem?_cons_zero]; rfl)
    case hd3 => rfl
    case hy3 =>
      refine' Or.inl ⟨?hw3, ?hx3⟩
      case hw3 => rfl
      case hx3 => (intro w hSw; (try dsimp only at hSw); go_simp; (try with_reducible rfl))
    (try simp only [Act.put, List.setIfInBounds_toArray, List.set_cons_zero, List.set_cons_succ])
    refine' tk_any 3 18 (v := _) ?hi4 ?hd4 (by kernel_rfl) (by kernel_rfl) (by kernel_rfl) (fun _ _ _ h => h) ?hy4 hHeld ?hr4
    case hi4 => (simp only [List.getElem?_toArray, List.getElem?_cons_succ, List.getElem?_cons_zero]; rfl)
    case hd4 => rfl
    case hy4 =>
      refine' Or.inl ⟨?hw4, ?hx4⟩
      case hw4 => rfl
      case hx4 => (intro w hSw; (try dsimp only at hSw); go_simp; (try with_reducible rfl))
    (try simp only [Act.put, List.setIfInBounds_toArray, List.set_cons_zero, List.set_cons_succ])
    refine' tk_any 4 19 (v := _) ?hi5 ?hd5 (by kernel_rfl) (by kernel_rfl) (by kernel_rfl) (fun _ _ _ h => h) ?hy5 hHeld ?hr5
    case hi5 => (simp only [List.getElem?_toArray, List.getElem?_cons_succ, List.getElem?_cons_zero]; rfl)
    case hd5 => rfl
    case hy5 =>
      refine' Or.inl ⟨?hw5, ?hx5⟩
      case hw5 => rfl
      case hx5 => (intro w hSw; (try dsimp only at hSw); go_simp; (try with_reducible rfl))
    (try simp only [Act.put, List.setIfInBounds_toArray, List.set_cons_zero, List.set_cons_succ])
    refine' tk_any 6 21 (v := _) ?hi6 ?hd6 (by kernel_rfl) (by kernel_rfl) (by kernel_rfl) (fun _ _ _ h => h) ?hy6 hHeld ?hr6
    case hi6 => (simp only [List.getElem?_toArray, List.getElem?_cons_succ, List.getElem?_cons_zero]; rfl)
    case hd6 => rfl
    case hy6 =>
      refine' Or.inl ⟨?hw6, ?hx6⟩
      case hw6 => rfl
      case hx6 => (intro w hSw; (try dsimp only at hSw); go_simp; (try with_reducible rfl))
    (try simp only [Act.put, List.setIfInBounds_toArray, List.set_cons_zero, List.set_cons_succ])
    refine' tk_two 5 7 ?hi19 ?hj19 (by kernel_rfl) ?ha19 ?hb19
    case hi19 => (simp only [List.getElem?_toArray, List.getElem?_cons_succ, List.getElem?_cons_zero]; rfl)
    case hj19 => (simp only [List.getElem?_toArray, List.getElem?_cons_succ, List.getElem?_cons_zero]; rfl)
    case ha19 =>
      intro K hK
      go_simp
      clear hHeld
      refine hK.out _ _ (by (try dsimp only); try exact trivial) (fun hHeld => ?_)
      clear hK K
      (try simp only [Act.put, List.setIfInBounds_toArray, List.set_cons_zero, List.set_cons_succ])
      refine' tk_call 7 ?hi7 (by kernel_rfl) ?hr7
      case hi7 => (simp only [List.getElem?_toArray, List.getElem?_cons_succ, List.getElem?_cons_zero]; rfl)
      intro K hK
      go_simp
      go_at_call 19
      refine (HUS.out wd HB.out).mono ?_
      rintro e w5 ⟨rfl, rfl⟩
      go_wp2_with fail
      clear hHeld
      refine hK.out _ _ (by (try dsimp only); try exact trivial) (fun hHeld => ?_)
      clear hK K
      (try simp only [Act.put, List.setIfInBounds_toArray, List.set_cons_zero, List.set_cons_succ])
      refine' tk_call 8 ?hi8 (by kernel_rfl) ?hr8
      case hi8 => (simp only [List.getElem?_toArray, List.getElem?_cons_succ, List.getElem?_cons_zero]; rfl)
      intro K hK
      go_simp
      go_at_call 44
      refine (HGR.out wd HB.out.r3).mono ?_
      rintro e w4 ⟨pw2, rfl, hr4, ho4, hb4, hm4⟩
      obtain ⟨a4, n4, c4, rfl⟩ := hr4.form
      have HB4 := Lib.hid (show HwM (w4.setCell ⟨hb, 3, none⟩ (.slice a4 n4 c4)) N1 hb cap (.slice wa wn wk) vs (.slice a4 n4 c4) ps W S [] Z from HB.out.cell3 hb4 hr4 ho4)
      have HR4 := Lib.hid (show RowM (w4.setCell ⟨hb, 3, none⟩ (.slice a4 n4 c4)) (.slice (some ⟨ga, 0, none⟩) n n) roots from (HRW.out.keep fun b hb5 => hb4.block b (HRW.out.lt hb5)).keep fun b hb5 => heap_setCell_other _ _ _ _ (fun e => HGA.out (by cases hb5; exact e)))
      have HK4 := Lib.hid (show Ked N w (w4.setCell ⟨hb, 3, none⟩ (.slice a4 n4 c4)) from (HK.out.then hb4 (fun i hi _ => Nat.lt_of_lt_of_le hi HK.out.size)).set (fun _ hN => HNH.out hN) _)
      have HM4 := Lib.hid hm4
      have hc4 : w4.cell? ⟨hb, 3, none⟩ = some (.slice pa pn pc) := (World.cell?_of_block (hb4.block hb HB.out.lt)).trans HB.out.c3
      have hf4 : w4.frozen? ⟨hb, 3, none⟩ = false := (World.frozen?_of_block (hb4.block hb HB.out.lt)).trans (HB.out.fr 3)
      clear hr4 ho4 hb4 hm4
      go_wp2_with fail
      clear hHeld
      refine hK.out _ _ (by (try dsimp only); try exact trivial) (fun hHeld => ?_)
      clear hK K
      (try simp only [Act.put, List.setIfInBounds_toArray, List.set_cons_zero, List.set_cons_succ])
      refine' tk_any 9 24 (v := _) ?hi9 ?hd9 (by kernel_rfl) (by kernel_rfl) (by kernel_rfl) (fun _ _ _ h => h) ?hy9 hHeld ?hr9
      case hi9 => (simp only [List.getElem?_toArray, List.getElem?_cons_succ, List.getElem?_cons_zero]; rfl)
      case hd9 => rfl
      case hy9 =>
        refine' Or.inl ⟨?hw9, ?hx9⟩
        case hw9 => rfl
        case hx9 => (intro w hSw; (try dsimp only at hSw); go_simp; (try with_reducible rfl))
      (try simp only [Act.put, List.setIfInBounds_toArray, List.set_cons_zero, List.set_cons_succ])
      refine' tk_any 10 25 (v := _) ?hi10 ?hd10 (by kernel_rfl) (by kernel_rfl) (by kernel_rfl) (fun _ _ _ h => h) ?hy10 hHeld ?hr10
      case hi10 => (simp only [List.getElem?_toArray, List.getElem?_cons_succ, List.getElem?_cons_zero]; rfl)
      case hd10 => rfl
      case hy10 =>
        refine' Or.inl ⟨?hw10, ?hx10⟩
        case hw10 => rfl
        case hx10 => (intro w hSw; (try dsimp only at hSw); go_simp; (try with_reducible rfl))
      (try simp only [Act.put, List.setIfInBounds_toArray, List.set_cons_zero, List.set_cons_succ])
      refine' tk_any 11 26 (v := _) ?hi11 ?hd11 (by kernel_rfl) (by kernel_rfl) (by kernel_rfl) (fun _ _ _ h => h) ?hy11 hHeld ?hr11
      case hi11 => (simp only [List.getElem?_toArray, List.getElem?_cons_succ, List.getElem?_cons_zero]; rfl)
      case hd11 => rfl
      case hy11 =>
        refine' Or.inl ⟨?hw11, ?hx11⟩
        case hw11 => rfl
        case hx11 => (intro w hSw; (try dsimp only at hSw); go_simp; (try with_reducible rfl))
      (try simp only [Act.put, List.setIfInBounds_toArray, List.set_cons_zero, List.set_cons_succ])
      refine' tk_call 12 ?hi12 (by kernel_rfl) ?hr12
      case hi12 => (simp only [List.getElem?_toArray, List.getElem?_cons_succ, List.getElem?_cons_zero]; rfl)
      intro K hK
      go_simp
      clear hHeld
      refine hK.out _ _ (by (try dsimp only); try exact trivial) (fun hHeld => ?_)
      clear hK K
      (try simp only [Act.put, List.setIfInBounds_toArray, List.set_cons_zero, List.set_cons_succ])
      refine wpAnyH_done (by kernel_rfl) ?_ _
      refine NoPanic.normal ?_
      (try go_wp2)
      go_meet
      case rel => exact ⟨_, HB4, HR4, HK4, HM4⟩
    case hb19 =>
      intro K hK
      go_simp
      go_at_call 19
      refine (HUS.out wd HB.out).mono ?_
      rintro e w5 ⟨rfl, rfl⟩
      go_wp2_with fail
      clear hHeld
      refine hK.out _ _ (by (try dsimp only); try exact trivial) (fun hHeld => ?_)
      clear hK K
      (try simp only [Act.put, List.setIfInBounds_toArray, List.set_cons_zero, List.set_cons_succ])
      refine' tk_call 5 ?hi13 (by kernel_rfl) ?hr13
      case hi13 => (simp only [List.getElem?_toArray, List.getElem?_cons_succ, List.getElem?_cons_zero]; rfl)
      intro K hK
      go_simp
      clear hHeld
      refine hK.out _ _ (by (try dsimp only); try exact trivial) (fun hHeld => ?_)
      clear hK K
      (try simp only [Act.put, List.setIfInBounds_toArray, List.set_cons_zero, List.set_cons_succ])
      refine' tk_call 8 ?hi14 (by kernel_rfl) ?hr14
      case hi14 => (simp only [List.getElem?_toArray, List.getElem?_cons_succ, List.getElem?_cons_zero]; rfl)
      intro K hK
      go_simp
      go_at_call 44
      refine (HGR.out wd HB.out.r3).mono ?_
      rintro e w4 ⟨pw2, rfl, hr4, ho4, hb4, hm4⟩
      obtain ⟨a4, n4, c4, rfl⟩ := hr4.form
      have HB4 := Lib.hid (show HwM (w4.setCell ⟨hb, 3, none⟩ (.slice a4 n4 c4)) N1 hb cap (.slice wa wn wk) vs (.slice a4 n4 c4) ps W S [] Z from HB.out.cell3 hb4 hr4 ho4)
      have HR4 := Lib.hid (show RowM (w4.setCell ⟨hb, 3, none⟩ (.slice a4 n4 c4)) (.slice (some ⟨ga, 0, none⟩) n n) roots from (HRW.out.keep fun b hb5 => hb4.block b (HRW.out.lt hb5)).keep fun b hb5 => heap_setCell_other _ _ _ _ (fun e => HGA.out (by cases hb5; exact e)))
      have HK4 := Lib.hid (show Ked N w (w4.setCell ⟨hb, 3, none⟩ (.slice a4 n4 c4)) from (HK.out.then hb4 (fun i hi _ => Nat.lt_of_lt_of_le hi HK.out.size)).set (fun _ hN => HNH.out hN) _)
      have HM4 := Lib.hid hm4
      have hc4 : w4.cell? ⟨hb, 3, none⟩ = some (.slice pa pn pc) := (World.cell?_of_block (hb4.block hb HB.out.lt)).trans HB.out.c3
      have hf4 : w4.frozen? ⟨hb, 3, none⟩ = false := (World.frozen?_of_block (hb4.block hb HB.out.lt)).trans (HB.out.fr 3)
      clear hr4 ho4 hb4 hm4
      go_wp2_with fail
      clear hHeld
      refine hK.out _ _ (by (try dsimp only); try exact trivial) (fun hHeld => ?_)
      clear hK K
      (try simp only [Act.put, List.setIfInBounds_toArray, List.set_cons_zero, List.set_cons_succ])
      refine' tk_any 9 24 (v := _) ?hi15 ?hd15 (by kernel_rfl) (by kernel_rfl) (by kernel_rfl) (fun _ _ _ h => h) ?hy15 hHeld ?hr15
      case hi15 => (simp only [List.getElem?_toArray, List.getElem?_cons_succ, List.getElem?_cons_zero]; rfl)
      case hd15 => rfl
      case hy15 =>
        refine' Or.inl ⟨?hw15, ?hx15⟩
        case hw15 => rfl
        case hx15 => (intro w hSw; (try dsimp only at hSw); go_simp; (try with_reducible rfl))
      (try simp only [Act.put, List.setIfInBounds_toArray, List.set_cons_zero, List.set_cons_succ])
      refine' tk_any 10 25 (v := _) ?hi16 ?hd16 (by kernel_rfl) (by kernel_rfl) (by kernel_rfl) (fun _ _ _ h => h) ?hy16 hHeld ?hr16
      case hi16 => (simp only [List.getElem?_toArray, List.getElem?_cons_succ, List.getElem?_cons_zero]; rfl)
      case hd16 => rfl
      case hy16 =>
        refine' Or.inl ⟨?hw16, ?hx16⟩
        case hw16 => rfl
        case hx16 => (intro w hSw; (try dsimp only at hSw); go_simp; (try with_reducible rfl))
      (try simp only [Act.put, List.setIfInBounds_toArray, List.set_cons_zero, List.set_cons_succ])
      refine' tk_any 11 26 (v := _) ?hi17 ?hd17 (by kernel_rfl) (by kernel_rfl) (by kernel_rfl) (fun _ _ _ h => h) ?hy17 hHeld ?hr17
      case hi17 => (simp only [List.getElem?_toArray, List.getElem?_cons_succ, List.getElem?_cons_zero]; rfl)
      case hd17 => rfl
      case hy17 =>
        refine' Or.inl ⟨?hw17, ?hx17⟩
        case hw17 => rfl
        case hx17 => (intro w hSw; (try dsimp only at hSw); go_simp; (try with_reducible rfl))
      (try simp only [Act.put, List.setIfInBounds_toArray, List.set_cons_zero, List.set_cons_succ])
      refine' tk_call 12 ?hi18 (by kernel_rfl) ?hr18
      case hi18 => (simp only [List.getElem?_toArray, List.getElem?_cons_succ, List.getElem?_cons_zero]; rfl)
      intro K hK
      go_simp
      clear hHeld
      refine hK.out _ _ (by (try dsimp only); try exact trivial) (fun hHeld => ?_)
      clear hK K
      (try simp only [Act.put, List.setIfInBounds_toArray, List.set_cons_zero, List.set_cons_succ])
      refine wpAnyH_done (by kernel_rfl) ?_ _
      refine NoPanic.normal ?_
      (try go_wp2)
      go_meet
      case rel => exact ⟨_, HB4, HR4, HK4, HM4⟩
  case rest =>
    obtain ⟨v3, HB3, HRW3, HK3, HM3⟩ := hcut
    clear HB HRW HK HGR HUS hcopy
    obtain ⟨w3, rfl⟩ : ∃ x, x = wc := ⟨_, rfl⟩
    obtain ⟨sa, sn, sc, rfl⟩ := HB3.out.r2.form
    obtain ⟨za, zn, zc, rfl⟩ := HB3.out.r4.form
    by_cases hl : l = []
    · subst hl
      have HFW := Lib.hid (pfollow_none (va := (.slice (some ⟨ga, 0, none⟩) n n)) HB3.out H2.out.bits (by have := H2.out.s1; omega) HRW3.out HWS.out (fun x _ => rfl))
      obtain ⟨a3, c3, rfl, _⟩ := HB3.out.r3.val
      change Hid (HwM w3 N1 hb cap (.slice wa wn wk) (.slice sa sn sc) (.slice a3 0 c3) (.slice za zn zc) W S [] Z) at HB3
      go_wp2_with fail
      refine HFW.out.mono ?_
      rintro e w4 ⟨rfl, rfl⟩
      clear HFW
      go_wp2
      go_loopw [6] (fun iv wr => iv = .int .i64 0 ∧ Hid (w3 = wr)) (fun _ _ => 0)
      case atStart => exact ⟨rfl, Lib.hid rfl⟩
      case round =>
        obtain ⟨rfl, HW⟩ := hrel
        have hw := HW.out
        subst hw
        have c3' := HB3.out.c3
        go_wp2_with fail
        refine (pempty_any HB3.out).mono ?_
        rintro e w5 ⟨rfl, vw5, h5, hk5⟩
        obtain ⟨a1, n1, k1, rfl⟩ := h5.r1.form
        have HE := Lib.hid h5
        have HRE := Lib.hid (show RowM w5 (.slice (some ⟨ga, 0, none⟩) n n) roots from HRW3.out.keep fun b hb5 => hk5.block b (HRW3.out.lt hb5) (HN1.out b (by cases hb5; rfl)))
        have HKE := Lib.hid (show Ked N w w5 from HK3.out.trans (hk5.mono fun b _ h => HN2.out b h))
        have HRS := Lib.hid (show (collH [] roots).2 = roots by rw [coll_empty])
        have HLE := Lib.hid (show (collH [] roots).1 = [] by rw [coll_empty])
        have HCO := Lib.hid (show HpC cap [] [] Z (List.replicate S.length 0) from ⟨LayP.nil _, BitsP.zeros H2.out.zero, by simp, Nat.zero_le _, H2.out.big, H2.out.z1, by simpa using H2.out.s1, fun k hk => absurd hk (Nat.not_lt_zero _)⟩)
        clear h5 hk5 c3' HB3 HRW3 HK3 HM3 H1 H2 HWS
        obtain ⟨a2, n2, k2, rfl, rfl, rfl⟩ : ∃ a2 n2 k2, a2 = sa ∧ n2 = sn ∧ k2 = sc := ⟨_, _, _, rfl, rfl, rfl⟩
        obtain ⟨k3, rfl⟩ : ∃ k3, k3 = c3 := ⟨_, rfl⟩
        obtain ⟨a4, n4, k4, rfl, rfl, rfl⟩ : ∃ a4 n4 k4, a4 = za ∧ n4 = zn ∧ k4 = zc := ⟨_, _, _, rfl, rfl, rfl⟩
        go_upto_region 12 with fail
        have HPOST := Lib.hid (show ColPost N hb cap [] roots w (.returned (.slice (some ⟨ga, 0, none⟩) n n)) ((((w5.drew.setCell ⟨hb, 1, none⟩ (.slice a3 0 k3)).setCell ⟨hb, 2, none⟩ (.slice a4 n4 k4)).setCell ⟨hb, 3, none⟩ (.slice a1 n1 k1)).setCell ⟨hb, 4, none⟩ (.slice a2 n2 k2)) from ⟨_, rfl, by rw [HRS.out]; exact keep_hb (keep_hb (keep_hb (keep_hb (HRE.out.keep fun _ _ => rfl) HVA.out) HVA.out) HVA.out) HVA.out, fun b hb5 => by cases hb5; rw [HGE.out]; exact Nat.le_refl _, by rw [HLE.out]; exact ⟨_, _, _, _, _, _, _, (HE.out.drew 1).swap.mono (fun b hb5 => hb5.elim (HN2.out b) fun h => HN1.out b (by cases h; rfl)), HCO.out⟩, (HKE.out.trans (Ked.drew N w5 1)).swap HNH.out⟩)
        have c1 : w5.drew.cell? ⟨hb, 1, none⟩ = some (.slice a1 n1 k1) := HE.out.c1
        have c2 : w5.drew.cell? ⟨hb, 2, none⟩ = some (.slice a2 n2 k2) := HE.out.c2
        have c3 : w5.drew.cell? ⟨hb, 3, none⟩ = some (.slice a3 0 k3) := HE.out.c3
        have c4 : w5.drew.cell? ⟨hb, 4, none⟩ = some (.slice a4 n4 k4) := HE.out.c4
        have f1 : w5.drew.frozen? ⟨hb, 1, none⟩ = false := HE.out.fr 1
        have f2 : w5.drew.frozen? ⟨hb, 2, none⟩ = false := HE.out.fr 2
        have f3 : w5.drew.frozen? ⟨hb, 3, none⟩ = false := HE.out.fr 3
        have f4 : w5.drew.frozen? ⟨hb, 4, none⟩ = false := HE.out.fr 4
        clear HE HRE HKE
        (try dsimp only [List.append])
        refine wp_region_noPanic ?_
        refine wp_region_held_drew (S := (fun _ => True)) (by kernel_rfl) (by (try dsimp only); try exact trivial) (fun hHeld => ?_)
        generalize w5.drew = wd at hHeld c1 c2 c3 c4 f1 f2 f3 f4 HPOST ⊢
        refine' tk_any 0 60 (v := _) ?hi20 ?hd20 (by kernel_rfl) (by kernel_rfl) (by kernel_rfl) (fun _ _ _ h => h) ?hy20 hHeld ?hr20
        case hi20 => (simp only [List.getElem?_toArray, List.getElem?_cons_zero]; rfl)
        case hd20 => rfl
        case hy20 =>
          refine' Or.inl ⟨?hw20, ?hx20⟩
          case hw20 => rfl
          case hx20 => (intro w hSw; (try dsimp only at hSw); go_simp; (try with_reducible rfl))
        (try simp only [Act.put, List.setIfInBounds_toArray, List.set_cons_zero, List.set_cons_succ])
        refine' tk_any 1 61 (v := _) ?hi21 ?hd21 (by kernel_rfl) (by kernel_rfl) (by kernel_rfl) (fun _ _ _ h => h) ?hy21 hHeld ?hr21
        case hi21 => (simp only [List.getElem?_toArray, List.getElem?_cons_succ, List.getElem?_cons_zero]; rfl)
        case hd21 => rfl
        case hy21 =>
          refine' Or.inl ⟨?hw21, ?hx21⟩
          case hw21 => rfl
          case hx21 => (intro w hSw; (try dsimp only at hSw); go_simp; (try with_reducible rfl))
        (try simp only [Act.put, List.setIfInBounds_toArray, List.set_cons_zero, List.set_cons_succ])
        refine' tk_any 2 62 (v := _) ?hi22 ?hd22 (by kernel_rfl) (by kernel_rfl) (by kernel_rfl) (fun _ _ _ h => h) ?hy22 hHeld ?hr22
        case hi22 => (simp only [List.getElem?_toArray, List.getElem?_cons_succ, List.getElem?_cons_zero]; rfl)
        case hd22 => rfl
        case hy22 =>
          refine' Or.inl ⟨?hw22, ?hx22⟩
          case hw22 => rfl
          case hx22 => (intro w hSw; (try dsimp only at hSw); go_simp; (try with_reducible rfl))
        (try simp only [Act.put, List.setIfInBounds_toArray, List.set_cons_zero, List.set_cons_succ])
        refine' tk_any 3 63 (v := _) ?hi23 ?hd23 (by kernel_rfl) (by kernel_rfl) (by kernel_rfl) (fun _ _ _ h => h) ?hy23 hHeld ?hr23
        case hi23 => (simp only [List.getElem?_toArray, List.getElem?_cons_succ, List.getElem?_cons_zero]; rfl)
        case hd23 => rfl
        case hy23 =>
          refine' Or.inl ⟨?hw23, ?hx23⟩
          case hw23 => rfl
          case hx23 => (intro w hSw; (try dsimp only at hSw); go_simp; (try with_reducible rfl))
        (try simp only [Act.put, List.setIfInBounds_toArray, List.set_cons_zero, List.set_cons_succ])
        refine' tk_any 4 64 (v := _) ?hi24 ?hd24 (by kernel_rfl) (by kernel_rfl) (by kernel_rfl) (fun _ _ _ h => h) ?hy24 hHeld ?hr24
        case hi24 => (simp only [List.getElem?_toArray, List.getElem?_cons_succ, List.getElem?_cons_zero]; rfl)
        case hd24 => rfl
        case hy24 =>
          refine' Or.inl ⟨?hw24, ?hx24⟩
          case hw24 => rfl
          case hx24 => (intro w hSw; (try dsimp only at hSw); go_simp; (try with_reducible rfl))
        (try simp only [Act.put, List.setIfInBounds_toArray, List.set_cons_zero, List.set_cons_succ])
        refine' tk_any 6 66 (v := _) ?hi25 ?hd25 (by kernel_rfl) (by kernel_rfl) (by kernel_rfl) (fun _ _ _ h => h) ?hy25 hHeld ?hr25
        case hi25 => (simp only [List.getElem?_toArray, List.getElem?_cons_succ, List.getElem?_cons_zero]; rfl)
        case hd25 => rfl
        case hy25 =>
          refine' Or.inl ⟨?hw25, ?hx25⟩
          case hw25 => rfl
          case hx25 => (intro w hSw; (try dsimp only at hSw); go_simp; (try with_reducible rfl))
        (try simp only [Act.put, List.setIfInBounds_toArray, List.set_cons_zero, List.set_cons_succ])
        refine' tk_any 7 67 (v := _) ?hi26 ?hd26 (by kernel_rfl) (by kernel_rfl) (by kernel_rfl) (fun _ _ _ h => h) ?hy26 hHeld ?hr26
        case hi26 => (simp only [List.getElem?_toArray, List.getElem?_cons_succ, List.getElem?_cons_zero]; rfl)
        case hd26 => rfl
        case hy26 =>
          refine' Or.inl ⟨?hw26, ?hx26⟩
          case hw26 => rfl
          case hx26 => (intro w hSw; (try dsimp only at hSw); go_simp; (try with_reducible rfl))
        (try simp only [Act.put, List.setIfInBounds_toArray, List.set_cons_zero, List.set_cons_succ])
        refine' tk_any 8 68 (v := _) ?hi27 ?hd27 (by kernel_rfl) (by kernel_rfl) (by kernel_rfl) (fun _ _ _ h => h) ?hy27 hHeld ?hr27
        case hi27 => (simp only [List.getElem?_toArray, List.getElem?_cons_succ, List.getElem?_cons_zero]; rfl)
        case hd27 => rfl
        case hy27 =>
          refine' Or.inl ⟨?hw27, ?hx27⟩
          case hw27 => rfl
          case hx27 => (intro w hSw; (try dsimp only at hSw); go_simp; (try with_reducible rfl))
        (try simp only [Act.put, List.setIfInBounds_toArray, List.set_cons_zero, List.set_cons_succ])
        refine' tk_two 5 9 ?hi42 ?hj42 (by kernel_rfl) ?ha42 ?hb42
        case hi42 => (simp only [List.getElem?_toArray, List.getElem?_cons_succ, List.getElem?_cons_zero]; rfl)
        case hj42 => (simp only [List.getElem?_toArray, List.getElem?_cons_succ, List.getElem?_cons_zero]; rfl)
        case ha42 =>
          intro K hK
          go_simp
          clear hHeld
          refine hK.out _ _ (by (try dsimp only); try exact trivial) (fun hHeld => ?_)
          clear hK K
          (try simp only [Act.put, List.setIfInBounds_toArray, List.set_cons_zero, List.set_cons_succ])
          refine' tk_call 9 ?hi28 (by kernel_rfl) ?hr28
          case hi28 => (simp only [List.getElem?_toArray, List.getElem?_cons_succ, List.getElem?_cons_zero]; rfl)
          intro K hK
          go_simp
          clear hHeld
          refine hK.out _ _ (by (try dsimp only); try exact trivial) (fun hHeld => ?_)
          clear hK K
          (try simp only [Act.put, List.setIfInBounds_toArray, List.set_cons_zero, List.set_cons_succ])
          refine' tk_any 10 70 (v := _) ?hi29 ?hd29 (by kernel_rfl) (by kernel_rfl) (by kernel_rfl) (fun _ _ _ h => h) ?hy29 hHeld ?hr29
          case hi29 => (simp only [List.getElem?_toArray, List.getElem?_cons_succ, List.getElem?_cons_zero]; rfl)
          case hd29 => rfl
          case hy29 =>
            refine' Or.inl ⟨?hw29, ?hx29⟩
            case hw29 => rfl
            case hx29 => (intro w hSw; (try dsimp only at hSw); go_simp; (try with_reducible rfl))
          (try simp only [Act.put, List.setIfInBounds_toArray, List.set_cons_zero, List.set_cons_succ])
          refine' tk_any 11 71 (v := _) ?hi30 ?hd30 (by kernel_rfl) (by kernel_rfl) (by kernel_rfl) (fun _ _ _ h => h) ?hy30 hHeld ?hr30
          case hi30 => (simp only [List.getElem?_toArray, List.getElem?_cons_succ, List.getElem?_cons_zero]; rfl)
          case hd30 => rfl
          case hy30 =>
            refine' Or.inl ⟨?hw30, ?hx30⟩
            case hw30 => rfl
            case hx30 => (intro w hSw; (try dsimp only at hSw); go_simp; (try with_reducible rfl))
          (try simp only [Act.put, List.setIfInBounds_toArray, List.set_cons_zero, List.set_cons_succ])
          refine' tk_call 12 ?hi31 (by kernel_rfl) ?hr31
          case hi31 => (simp only [List.getElem?_toArray, List.getElem?_cons_succ, List.getElem?_cons_zero]; rfl)
          intro K hK
          go_simp
          clear hHeld
          refine hK.out _ _ (by (try dsimp only); try exact trivial) (fun hHeld => ?_)
          clear hK K
          (try simp only [Act.put, List.setIfInBounds_toArray, List.set_cons_zero, List.set_cons_succ])
          refine' tk_any 13 72 (v := _) ?hi32 ?hd32 (by kernel_rfl) (by kernel_rfl) (by kernel_rfl) (fun _ _ _ h => h) ?hy32 hHeld ?hr32
          case hi32 => (simp only [List.getElem?_toArray, List.getElem?_cons_succ, List.getElem?_cons_zero]; rfl)
          case hd32 => rfl
          case hy32 =>
            refine' Or.inl ⟨?hw32, ?hx32⟩
            case hw32 => rfl
            case hx32 => (intro w hSw; (try dsimp only at hSw); go_simp; (try with_reducible rfl))
          (try simp only [Act.put, List.setIfInBounds_toArray, List.set_cons_zero, List.set_cons_succ])
          refine' tk_any 14 73 (v := _) ?hi33 ?hd33 (by kernel_rfl) (by kernel_rfl) (by kernel_rfl) (fun _ _ _ h => h) ?hy33 hHeld ?hr33
          case hi33 => (simp only [List.getElem?_toArray, List.getElem?_cons_succ, List.getElem?_cons_zero]; rfl)
          case hd33 => rfl
          case hy33 =>
            refine' Or.inl ⟨?hw33, ?hx33⟩
            case hw33 => rfl
            case hx33 => (intro w hSw; (try dsimp only at hSw); go_simp; (try with_reducible rfl))
          (try simp only [Act.put, List.setIfInBounds_toArray, List.set_cons_zero, List.set_cons_succ])
          refine' tk_call 15 ?hi34 (by kernel_rfl) ?hr34
          case hi34 => (simp only [List.getElem?_toArray, List.getElem?_cons_succ, List.getElem?_cons_zero]; rfl)
          intro K hK
          go_simp
          clear hHeld
          refine hK.out _ _ (by (try dsimp only); try exact trivial) (fun hHeld => ?_)
          clear hK K
          (try simp only [Act.put, List.setIfInBounds_toArray, List.set_cons_zero, List.set_cons_succ])
          refine wpAnyH_done (by kernel_rfl) ?_ _
          refine NoPanic.normal ?_
          go_wp2
          go_ret
          exact HPOST.out
        case hb42 =>
          intro K hK
          go_simp
          clear hHeld
          refine hK.out _ _ (by (try dsimp only); try exact trivial) (fun hHeld => ?_)
          clear hK K
          (try simp only [Act.put, List.setIfInBounds_toArray, List.set_cons_zero, List.set_cons_succ])
          refine' tk_call 5 ?hi35 (by kernel_rfl) ?hr35
          case hi35 => (simp only [List.getElem?_toArray, List.getElem?_cons_succ, List.getElem?_cons_zero]; rfl)
          intro K hK
          go_simp
          clear hHeld
          refine hK.out _ _ (by (try dsimp only); try exact trivial) (fun hHeld => ?_)
          clear hK K
          (try simp only [Act.put, List.setIfInBounds_toArray, List.set_cons_zero, List.set_cons_succ])
          refine' tk_any 10 70 (v := _) ?hi36 ?hd36 (by kernel_rfl) (by kernel_rfl) (by kernel_rfl) (fun _ _ _ h => h) ?hy36 hHeld ?hr36
          case hi36 => (simp only [List.getElem?_toArray, List.getElem?_cons_succ, List.getElem?_cons_zero]; rfl)
          case hd36 => rfl
          case hy36 =>
            refine' Or.inl ⟨?hw36, ?hx36⟩
            case hw36 => rfl
            case hx36 => (intro w hSw; (try dsimp only at hSw); go_simp; (try with_reducible rfl))
          (try simp only [Act.put, List.setIfInBounds_toArray, List.set_cons_zero, List.set_cons_succ])
          refine' tk_any 11 71 (v := _) ?hi37 ?hd37 (by kernel_rfl) (by kernel_rfl) (by kernel_rfl) (fun _ _ _ h => h) ?hy37 hHeld ?hr37
          case hi37 => (simp only [List.getElem?_toArray, List.getElem?_cons_succ, List.getElem?_cons_zero]; rfl)
          case hd37 => rfl
          case hy37 =>
            refine' Or.inl ⟨?hw37, ?hx37⟩
            case hw37 => rfl
            case hx37 => (intro w hSw; (try dsimp only at hSw); go_simp; (try with_reducible rfl))
          (try simp only [Act.put, List.setIfInBounds_toArray, List.set_cons_zero, List.set_cons_succ])
          refine' tk_call 12 ?hi38 (by kernel_rfl) ?hr38
          case hi38 => (simp only [List.getElem?_toArray, List.getElem?_cons_succ, List.getElem?_cons_zero]; rfl)
          intro K hK
          go_simp
          clear hHeld
          refine hK.out _ _ (by (try dsimp only); try exact trivial) (fun hHeld => ?_)
          clear hK K
          (try simp only [Act.put, List.setIfInBounds_toArray, List.set_cons_zero, List.set_cons_succ])
          refine' tk_any 13 72 (v := _) ?hi39 ?hd39 (by kernel_rfl) (by kernel_rfl) (by kernel_rfl) (fun _ _ _ h => h) ?hy39 hHeld ?hr39
          case hi39 => (simp only [List.getElem?_toArray, List.getElem?_cons_succ, List.getElem?_cons_zero]; rfl)
          case hd39 => rfl
          case hy39 =>
            refine' Or.inl ⟨?hw39, ?hx39⟩
            case hw39 => rfl
            case hx39 => (intro w hSw; (try dsimp only at hSw); go_simp; (try with_reducible rfl))
          (try simp only [Act.put, List.setIfInBounds_toArray, List.set_cons_zero, List.set_cons_succ])
          refine' tk_any 14 73 (v := _) ?hi40 ?hd40 (by kernel_rfl) (by kernel_rfl) (by kernel_rfl) (fun _ _ _ h => h) ?hy40 hHeld ?hr40
          case hi40 => (simp only [List.getElem?_toArray, List.getElem?_cons_succ, List.getElem?_cons_zero]; rfl)
          case hd40 => rfl
          case hy40 =>
            refine' Or.inl ⟨?hw40, ?hx40⟩
            case hw40 => rfl
            case hx40 => (intro w hSw; (try dsimp only at hSw); go_simp; (try with_reducible rfl))
          (try simp only [Act.put, List.setIfInBounds_toArray, List.set_cons_zero, List.set_cons_succ])
          refine' tk_call 15 ?hi41 (by kernel_rfl) ?hr41
          case hi41 => (simp only [List.getElem?_toArray, List.getElem?_cons_succ, List.getElem?_cons_zero]; rfl)
          intro K hK
          go_simp
          clear hHeld
          refine hK.out _ _ (by (try dsimp only); try exact trivial) (fun hHeld => ?_)
          clear hK K
          (try simp only [Act.put, List.setIfInBounds_toArray, List.set_cons_zero, List.set_cons_succ])
          refine wpAnyH_done (by kernel_rfl) ?_ _
          refine NoPanic.normal ?_
          go_wp2
          go_ret
          exact HPOST.out
    · have hup : 0 < usedH l := Nat.lt_of_lt_of_le (List.length_pos_iff.2 hl) (len_used l)
      obtain ⟨g, c, rfl, hgc⟩ : ∃ g c, v3 = .slice (some ⟨g, 0, none⟩) 0 c ∧ usedH l ≤ c := by
        rcases HM3.out with ⟨e, _⟩ | h
        · omega
        · exact h
      have HG0 := Lib.hid (show GcM w3 N1 hb cap g c l [] [] from ⟨_, _, _, W, S, [], Z, HB3.out, ⟨H2.out.lay.hdc fun k _ => (hdF_nil l k).symm, H2.out.bits, LayP.nil _, BitsP.zeros H2.out.zero, ord_nil l, ⟨rfl, fun j hj => absurd hj (Nat.not_lt_zero _)⟩, H2.out.used, H2.out.big, H2.out.s1, H2.out.z1, H2.out.ok, fun j hj => absurd hj (Nat.not_lt_zero _), hgc⟩⟩)
      have HFW := Lib.hid (pfollow_row HG0.out HRW3.out (fun b hb5 => HN1.out b (by cases hb5; rfl)) HWS.out)
      rw [spH_start] at HFW
      have HUB := Lib.hid (Nat.le_trans H2.out.used H2.out.big)
      clear HB3 HG0 hgc HM3 hup hl
      go_wp2_with fail
      refine HFW.out.mono ?_
      rintro e w4 ⟨rfl, hg4, hr4, hk4⟩
      have HG4 := Lib.hid hg4
      have HR4 := Lib.hid hr4
      have HK4 := Lib.hid (show Ked N w w4 from HK3.out.trans (hk4.mono fun b _ h => ⟨HN2.out b h, fun e => ne_of_low HLOW.out HGE.out h (by cases e; rfl)⟩))
      clear hg4 hr4 hk4 HFW HRW3 HK3 HWS
      obtain ⟨rs, hrs⟩ : ∃ rs, rs = roots.map (relocH l (visitH l [] roots)) := ⟨_, rfl⟩
      rw [← hrs] at HR4
      have HRSX := Lib.hid hrs
      clear hrs
      go_wp2
      go_loopw [6] (fun iv wr => ∃ (i : Nat) (o : List Nat), Hid (ColI l roots o i) ∧ iv = .int .i64 ((adrO l o i - 1 : Nat) : Int) ∧ Hid (GcM wr N1 hb cap g c l o (spH l o i)) ∧ Hid (RowM wr (.slice (some ⟨ga, 0, none⟩) n n) rs) ∧ Hid (Ked N w wr)) (fun iv _ => usedH l + 1 - (intOf iv).toNat)
      case atStart => exact ⟨0, _, Lib.hid (ColI.start l roots), by simp [adrO], HG4, HR4, HK4⟩
      case round =>
        obtain ⟨i, o, HCI, rfl, HGR, HRR, HKR⟩ := hrel
        obtain ⟨vw5, vs5, ps5, W5, S5, P5, Z5, hC⟩ := HGR.out
        have hP5 := hC.con.layP.len
        have hsps := hC.con.sps
        have hle5 := hsps.le hC.con.ord
        have c3 := hC.mem.c3
        have hadr := hsps.adr i
        by_cases hlt : i < o.length
        · have his : i < (spH l o i).length := by rw [spH_len]; exact hlt
          have hpos := adrH_pos (spH l o i) i
          have hin := adrH_in (j := ((spH l o i).getD i ob0).f.length) his (Nat.le_refl _)
          have hub := HUB.out
          have hoks := hC.con.oks i his
          have HOB := Lib.hid (pobject_any hC.mem.sp3 hC.con.layP his rfl hoks.1 hoks.2.1 (Nat.le_trans hle5 HUB.out))
          have hat := spH_at l hlt
          have hadr1 : adrO l (visitH l o (refsO (l.getD (o.getD i 0) ob0))) (i + 1) = adrH (spH l o i) i + ((l.getD (o.getD i 0) ob0).f.length + 1) := by
            rw [hadr]
            obtain ⟨t, ht⟩ := visitH_pre (l := l) (refsO (l.getD (o.getD i 0) ob0)) o
            rw [← ht, adrO_app l o t hlt]
            unfold adrO
            rw [take_succ_getD hlt, List.map_append, List.sum_append]
            simp only [List.map_cons, List.map_nil, List.sum_cons, List.sum_nil]
            show 1 + (((o.take i).map (szI l)).sum + (((l.getD (o.getD i 0) ob0).f.length + 1) + 0)) = _
            omega
          have HA1 := Lib.hid hadr1
          have HSTEP := Lib.hid (HCI.out.step hlt)
          have HCL := Lib.hid (fun hk => spH_step hlt HCI.out.clos hk)
          have HPL := Lib.hid (fun hk => spH_plain (l := l) (o := o) (i := i) hlt hk)
          have HFF := Lib.hid (fun (d2 oo dd : Nat) (ho : oo = adrH (spH l o i) i ∨ (l.getD (o.getD i 0) ob0).f.length = 0) => pfollow_fields (w := wr.drewN d2) (dd := dd) (kd := (l.getD (o.getD i 0) ob0).kind) (fs := (l.getD (o.getD i 0) ob0).f) (HGR.out.oth (w' := wr.drewN d2) (Nat.le_refl _) (fun _ _ _ => rfl) (fun b hb => ⟨.inl hb, HGR.out.low b hb⟩)) his hat ho)
          rw [hat] at HOB hin
          have hPP : ((adrO l o i - 1 : Nat) : Int) < P5.length := by rw [← hadr]; omega
          rw [← hadr]
          rw [← hadr] at hPP
          generalize adrH (spH l o i) i = q at *
          obtain ⟨p, rfl⟩ : ∃ p, q = p + 1 := ⟨q - 1, by omega⟩
          rw [show p + 1 - 1 = p by omega] at *
          have HQ := Lib.hid (show p + 1 + (l.getD (o.getD i 0) ob0).f.length ≤ usedH l by omega)
          have hPb : P5.length ≤ 1048576 := by omega
          clear hC hP5 hsps hle5 hadr his hpos hin hub hoks hat hadr1
          generalize hob : l.getD (o.getD i 0) ob0 = ob at *
          have HRF := Lib.hid (fun (h : ob.kind < 64) => show refsO ob = ob.f by unfold refsO; rw [if_pos h])
          have HRG := Lib.hid (fun (h : ¬ ob.kind < 64) => show visitH l o (refsO ob) = o by unfold refsO; rw [if_neg h]; rfl)
          generalize hfs : ob.f = fs at *
          clear hfs
          obtain ⟨kd, hkd⟩ : ∃ kd, kd = ob.kind := ⟨_, rfl⟩
          rw [← hkd] at HOB HCL HPL HFF HRF HRG
          clear hkd hob
          generalize P5.length = pl at *
          have hp5 : p ≤ 1048576 := by omega
          go_wp2_with fail
          refine HOB.out.mono ?_
          rintro e w6 ⟨⟨oo, dd, rfl, hdd, hoo⟩, d2, rfl⟩
          have HF2 := Lib.hid (HFF.out d2 oo dd hoo)
          clear hdd hoo HFF
          have hfb : fs.length ≤ 1048576 := by have := HQ.out; have := HUB.out; omega
          by_cases h64 : kd < 64
          · have e1 := HRF.out h64
            have HCX := Lib.hid (HCL.out h64)
            rw [← e1] at HF2 HCX
            rw [HCX.out] at HF2
            rw [e1] at HF2
            have HE1 := Lib.hid e1
            clear e1 HCX HCL HPL HRF HRG
            go_wp2_with fail
            refine HF2.out.mono ?_
            rintro e w7 ⟨rfl, hg7, hk7⟩
            rw [← HE1.out] at hg7
            have HG7 := Lib.hid hg7
            have HR7 := Lib.hid (show RowM w7 (.slice (some ⟨ga, 0, none⟩) n n) rs from (HRR.out.keep (w' := wr.drewN d2) fun _ _ => rfl).keep fun b hb5 => hk7.block b (HRR.out.lt hb5) (HN1.out b (by cases hb5; rfl)))
            have HK7 := Lib.hid (show Ked N w w7 from (HKR.out.trans (Ked.drew N wr d2)).trans (hk7.mono fun b _ h => HN2.out b h))
            clear hg7 hk7 HF2 HGR HRR HKR
            go_wp2
            refine ⟨⟨i + 1, _, HSTEP, congrArg (Value.int .i64) (by rw [HA1.out]; omega), HG7, HR7, HK7⟩, by have := HQ.out; simp [intOf]; omega⟩
          · have e1 := HRG.out (by omega)
            have HG7 := Lib.hid (show GcM (wr.drewN d2) N1 hb cap g c l (visitH l o (refsO ob)) (spH l (visitH l o (refsO ob)) (i + 1)) by
              rw [← HPL.out (by omega), e1]
              exact HGR.out.oth (Nat.le_refl _) (fun _ _ _ => rfl) (fun b hb => ⟨.inl hb, HGR.out.low b hb⟩))
            have HR7 := Lib.hid (show RowM (wr.drewN d2) (.slice (some ⟨ga, 0, none⟩) n n) rs from HRR.out.keep fun _ _ => rfl)
            have HK7 := Lib.hid (show Ked N w (wr.drewN d2) from HKR.out.trans (Ked.drew N wr d2))
            clear e1 HCL HPL HRF HRG HF2 HGR HRR HKR
            go_wp2
            refine ⟨⟨i + 1, _, HSTEP, congrArg (Value.int .i64) (by rw [HA1.out]; omega), HG7, HR7, HK7⟩, by have := HQ.out; simp [intOf]; omega⟩
        · obtain ⟨ho, hio⟩ := HCI.out.done (Nat.not_lt.1 hlt)
          have hq : adrO l o i - 1 = P5.length := by
            rw [hio, adrO_end, hP5, hsps.used]; omega
          have HRS := Lib.hid (show (collH l roots).2 = rs by rw [HRSX.out, HCI.out.roots, ho]; rfl)
          have HLE := Lib.hid (show (collH l roots).1 = spH l o i by rw [hio, spH_end, ho]; rfl)
          have HCO := Lib.hid (show HpC cap (spH l o i) P5 Z5 (List.replicate S5.length 0) from ⟨hC.con.layP, hC.con.bitsP, by simp, Nat.le_trans hle5 hC.con.used, hC.con.big, hC.con.z1, by simpa using hC.con.s1, hC.con.oks⟩)
          have hPb : P5.length ≤ 1048576 := by have := HUB.out; omega
          have HMEM := Lib.hid hC.mem
          rw [hq]
          clear hC hP5 hsps hle5 hadr ho hio hq hlt HGR HCI
          obtain ⟨a2, n2, k2, rfl⟩ := HMEM.out.r2.form
          obtain ⟨a4, n4, k4, rfl⟩ := HMEM.out.r4.form
          generalize spH l o i = LL at *
          obtain ⟨pl, hpl⟩ : ∃ pl, pl = P5.length := ⟨_, rfl⟩
          rw [← hpl] at c3 HMEM hPb ⊢
          clear hpl
          go_wp2_with fail
          refine (pempty_any HMEM.out).mono ?_
          rintro e w8 ⟨rfl, vw8, h8, hk8⟩
          obtain ⟨a1, n1, k1, rfl⟩ := h8.r1.form
          obtain ⟨a3, n3, k3, e3⟩ : ∃ a n k, (Value.slice (some ⟨g, 0, none⟩) pl c) = .slice a n k := ⟨_, _, _, rfl⟩
          rw [e3] at h8
          have HE := Lib.hid h8
          have HRE := Lib.hid (show RowM w8 (.slice (some ⟨ga, 0, none⟩) n n) rs from HRR.out.keep fun b hb5 => hk8.block b (HRR.out.lt hb5) (HN1.out b (by cases hb5; rfl)))
          have HKE := Lib.hid (show Ked N w w8 from HKR.out.trans (hk8.mono fun b _ h => HN2.out b h))
          clear h8 hk8 e3 HMEM HRR HKR c3
          go_upto_region 12 with fail
          have HPOST := Lib.hid (show ColPost N hb cap l roots w (.returned (.slice (some ⟨ga, 0, none⟩) n n)) ((((w8.drew.setCell ⟨hb, 1, none⟩ (.slice a3 n3 k3)).setCell ⟨hb, 2, none⟩ (.slice a4 n4 k4)).setCell ⟨hb, 3, none⟩ (.slice a1 n1 k1)).setCell ⟨hb, 4, none⟩ (.slice a2 n2 k2)) from ⟨_, rfl, by rw [HRS.out]; exact keep_hb (keep_hb (keep_hb (keep_hb (HRE.out.keep fun _ _ => rfl) HVA.out) HVA.out) HVA.out) HVA.out, fun b hb5 => by cases hb5; rw [HGE.out]; exact Nat.le_refl _, by rw [HLE.out]; exact ⟨_, _, _, _, _, _, _, (HE.out.drew 1).swap.mono (fun b hb5 => hb5.elim (HN2.out b) fun h => HN1.out b (by cases h; rfl)), HCO.out⟩, (HKE.out.trans (Ked.drew N w8 1)).swap HNH.out⟩)
          have c1 : w8.drew.cell? ⟨hb, 1, none⟩ = some (.slice a1 n1 k1) := HE.out.c1
          have c2 : w8.drew.cell? ⟨hb, 2, none⟩ = some (.slice a2 n2 k2) := HE.out.c2
          have c3 : w8.drew.cell? ⟨hb, 3, none⟩ = some (.slice a3 n3 k3) := HE.out.c3
          have c4 : w8.drew.cell? ⟨hb, 4, none⟩ = some (.slice a4 n4 k4) := HE.out.c4
          have f1 : w8.drew.frozen? ⟨hb, 1, none⟩ = false := HE.out.fr 1
          have f2 : w8.drew.frozen? ⟨hb, 2, none⟩ = false := HE.out.fr 2
          have f3 : w8.drew.frozen? ⟨hb, 3, none⟩ = false := HE.out.fr 3
          have f4 : w8.drew.frozen? ⟨hb, 4, none⟩ = false := HE.out.fr 4
          clear HE HRE HKE
          (try dsimp only [List.append])
          refine wp_region_noPanic ?_
          refine wp_region_held_drew (S := (fun _ => True)) (by kernel_rfl) (by (try dsimp only); try exact trivial) (fun hHeld => ?_)
          generalize w8.drew = wd at hHeld c1 c2 c3 c4 f1 f2 f3 f4 HPOST ⊢
          refine' tk_any 0 60 (v := _) ?hi43 ?hd43 (by kernel_rfl) (by kernel_rfl) (by kernel_rfl) (fun _ _ _ h => h) ?hy43 hHeld ?hr43
          case hi43 => (simp only [List.getElem?_toArray, List.getElem?_cons_zero]; rfl)
          case hd43 => rfl
          case hy43 =>
            refine' Or.inl ⟨?hw43, ?hx43⟩
            case hw43 => rfl
            case hx43 => (intro w hSw; (try dsimp only at hSw); go_simp; (try with_reducible rfl))
          (try simp only [Act.put, List.setIfInBounds_toArray, List.set_cons_zero, List.set_cons_succ])
          refine' tk_any 1 61 (v := _) ?hi44 ?hd44 (by kernel_rfl) (by kernel_rfl) (by kernel_rfl) (fun _ _ _ h => h) ?hy44 hHeld ?hr44
          case hi44 => (simp only [List.getElem?_toArray, List.getElem?_cons_succ, List.getElem?_cons_zero]; rfl)
          case hd44 => rfl
          case hy44 =>
            refine' Or.inl ⟨?hw44, ?hx44⟩
            case hw44 => rfl
            case hx44 => (intro w hSw; (try dsimp only at hSw); go_simp; (try with_reducible rfl))
          (try simp only [Act.put, List.setIfInBounds_toArray, List.set_cons_zero, List.set_cons_succ])
          refine' tk_any 2 62 (v := _) ?hi45 ?hd45 (by kernel_rfl) (by kernel_rfl) (by kernel_rfl) (fun _ _ _ h => h) ?hy45 hHeld ?hr45
          case hi45 => (simp only [List.getElem?_toArray, List.getElem?_cons_succ, List.getElem?_cons_zero]; rfl)
          case hd45 => rfl
          case hy45 =>
            refine' Or.inl ⟨?hw45, ?hx45⟩
            case hw45 => rfl
            case hx45 => (intro w hSw; (try dsimp only at hSw); go_simp; (try with_reducible rfl))
          (try simp only [Act.put, List.setIfInBounds_toArray, List.set_cons_zero, List.set_cons_succ])
          refine' tk_any 3 63 (v := _) ?hi46 ?hd46 (by kernel_rfl) (by kernel_rfl) (by kernel_rfl) (fun _ _ _ h => h) ?hy46 hHeld ?hr46
          case hi46 => (simp only [List.getElem?_toArray, List.getElem?_cons_succ, List.getElem?_cons_zero]; rfl)
          case hd46 => rfl
          case hy46 =>
            refine' Or.inl ⟨?hw46, ?hx46⟩
            case hw46 => rfl
            case hx46 => (intro w hSw; (try dsimp only at hSw); go_simp; (try with_reducible rfl))
          (try simp only [Act.put, List.setIfInBounds_toArray, List.set_cons_zero, List.set_cons_succ])
          refine' tk_any 4 64 (v := _) ?hi47 ?hd47 (by kernel_rfl) (by kernel_rfl) (by kernel_rfl) (fun _ _ _ h => h) ?hy47 hHeld ?hr47
          case hi47 => (simp only [List.getElem?_toArray, List.getElem?_cons_succ, List.getElem?_cons_zero]; rfl)
          case hd47 => rfl
          case hy47 =>
            refine' Or.inl ⟨?hw47, ?hx47⟩
            case hw47 => rfl
            case hx47 => (intro w hSw; (try dsimp only at hSw); go_simp; (try with_reducible rfl))
          (try simp only [Act.put, List.setIfInBounds_toArray, List.set_cons_zero, List.set_cons_succ])
          refine' tk_any 6 66 (v := _) ?hi48 ?hd48 (by kernel_rfl) (by kernel_rfl) (by kernel_rfl) (fun _ _ _ h => h) ?hy48 hHeld ?hr48
          case hi48 => (simp only [List.getElem?_toArray, List.getElem?_cons_succ, List.getElem?_cons_zero]; rfl)
          case hd48 => rfl
          case hy48 =>
            refine' Or.inl ⟨?hw48, ?hx48⟩
            case hw48 => rfl
            case hx48 => (intro w hSw; (try dsimp only at hSw); go_simp; (try with_reducible rfl))
          (try simp only [Act.put, List.setIfInBounds_toArray, List.set_cons_zero, List.set_cons_succ])
          refine' tk_any 7 67 (v := _) ?hi49 ?hd49 (by kernel_rfl) (by kernel_rfl) (by kernel_rfl) (fun _ _ _ h => h) ?hy49 hHeld ?hr49
          case hi49 => (simp only [List.getElem?_toArray, List.getElem?_cons_succ, List.getElem?_cons_zero]; rfl)
          case hd49 => rfl
          case hy49 =>
            refine' Or.inl ⟨?hw49, ?hx49⟩
            case hw49 => rfl
            case hx49 => (intro w hSw; (try dsimp only at hSw); go_simp; (try with_reducible rfl))
          (try simp only [Act.put, List.setIfInBounds_toArray, List.set_cons_zero, List.set_cons_succ])
          refine' tk_any 8 68 (v := _) ?hi50 ?hd50 (by kernel_rfl) (by kernel_rfl) (by kernel_rfl) (fun _ _ _ h => h) ?hy50 hHeld ?hr50
          case hi50 => (simp only [List.getElem?_toArray, List.getElem?_cons_succ, List.getElem?_cons_zero]; rfl)
          case hd50 => rfl
          case hy50 =>
            refine' Or.inl ⟨?hw50, ?hx50⟩
            case hw50 => rfl
            case hx50 => (intro w hSw; (try dsimp only at hSw); go_simp; (try with_reducible rfl))
          (try simp only [Act.put, List.setIfInBounds_toArray, List.set_cons_zero, List.set_cons_succ])
          refine' tk_two 5 9 ?hi65 ?hj65 (by kernel_rfl) ?ha65 ?hb65
          case hi65 => (simp only [List.getElem?_toArray, List.getElem?_cons_succ, List.getElem?_cons_zero]; rfl)
          case hj65 => (simp only [List.getElem?_toArray, List.getElem?_cons_succ, List.getElem?_cons_zero]; rfl)
          case ha65 =>
            intro K hK
            go_simp
            clear hHeld
            refine hK.out _ _ (by (try dsimp only); try exact trivial) (fun hHeld => ?_)
            clear hK K
            (try simp only [Act.put, List.setIfInBounds_toArray, List.set_cons_zero, List.set_cons_succ])
            refine' tk_call 9 ?hi51 (by kernel_rfl) ?hr51
            case hi51 => (simp only [List.getElem?_toArray, List.getElem?_cons_succ, List.getElem?_cons_zero]; rfl)
            intro K hK
            go_simp
            clear hHeld
            refine hK.out _ _ (by (try dsimp only); try exact trivial) (fun hHeld => ?_)
            clear hK K
            (try simp only [Act.put, List.setIfInBounds_toArray, List.set_cons_zero, List.set_cons_succ])
            refine' tk_any 10 70 (v := _) ?hi52 ?hd52 (by kernel_rfl) (by kernel_rfl) (by kernel_rfl) (fun _ _ _ h => h) ?hy52 hHeld ?hr52
            case hi52 => (simp only [List.getElem?_toArray, List.getElem?_cons_succ, List.getElem?_cons_zero]; rfl)
            case hd52 => rfl
            case hy52 =>
              refine' Or.inl ⟨?hw52, ?hx52⟩
              case hw52 => rfl
              case hx52 => (intro w hSw; (try dsimp only at hSw); go_simp; (try with_reducible rfl))
            (try simp only [Act.put, List.setIfInBounds_toArray, List.set_cons_zero, List.set_cons_succ])
            refine' tk_any 11 71 (v := _) ?hi53 ?hd53 (by kernel_rfl) (by kernel_rfl) (by kernel_rfl) (fun _ _ _ h => h) ?hy53 hHeld ?hr53
            case hi53 => (simp only [List.getElem?_toArray, List.getElem?_cons_succ, List.getElem?_cons_zero]; rfl)
            case hd53 => rfl
            case hy53 =>
              refine' Or.inl ⟨?hw53, ?hx53⟩
              case hw53 => rfl
              case hx53 => (intro w hSw; (try dsimp only at hSw); go_simp; (try with_reducible rfl))
            (try simp only [Act.put, List.setIfInBounds_toArray, List.set_cons_zero, List.set_cons_succ])
            refine' tk_call 12 ?hi54 (by kernel_rfl) ?hr54
            case hi54 => (simp only [List.getElem?_toArray, List.getElem?_cons_succ, List.getElem?_cons_zero]; rfl)
            intro K hK
            go_simp
            clear hHeld
            refine hK.out _ _ (by (try dsimp only); try exact trivial) (fun hHeld => ?_)
            clear hK K
            (try simp only [Act.put, List.setIfInBounds_toArray, List.set_cons_zero, List.set_cons_succ])
            refine' tk_any 13 72 (v := _) ?hi55 ?hd55 (by kernel_rfl) (by kernel_rfl) (by kernel_rfl) (fun _ _ _ h => h) ?hy55 hHeld ?hr55
            case hi55 => (simp only [List.getElem?_toArray, List.getElem?_cons_succ, List.getElem?_cons_zero]; rfl)
            case hd55 => rfl
            case hy55 =>
              refine' Or.inl ⟨?hw55, ?hx55⟩
              case hw55 => rfl
              case hx55 => (intro w hSw; (try dsimp only at hSw); go_simp; (try with_reducible rfl))
            (try simp only [Act.put, List.setIfInBounds_toArray, List.set_cons_zero, List.set_cons_succ])
            refine' tk_any 14 73 (v := _) ?hi56 ?hd56 (by kernel_rfl) (by kernel_rfl) (by kernel_rfl) (fun _ _ _ h => h) ?hy56 hHeld ?hr56
            case hi56 => (simp only [List.getElem?_toArray, List.getElem?_cons_succ, List.getElem?_cons_zero]; rfl)
            case hd56 => rfl
            case hy56 =>
              refine' Or.inl ⟨?hw56, ?hx56⟩
              case hw56 => rfl
              case hx56 => (intro w hSw; (try dsimp only at hSw); go_simp; (try with_reducible rfl))
            (try simp only [Act.put, List.setIfInBounds_toArray, List.set_cons_zero, List.set_cons_succ])
            refine' tk_call 15 ?hi57 (by kernel_rfl) ?hr57
            case hi57 => (simp only [List.getElem?_toArray, List.getElem?_cons_succ, List.getElem?_cons_zero]; rfl)
            intro K hK
            go_simp
            clear hHeld
            refine hK.out _ _ (by (try dsimp only); try exact trivial) (fun hHeld => ?_)
            clear hK K
            (try simp only [Act.put, List.setIfInBounds_toArray, List.set_cons_zero, List.set_cons_succ])
            refine wpAnyH_done (by kernel_rfl) ?_ _
            refine NoPanic.normal ?_
            go_wp2
            go_ret
            exact HPOST.out
          case hb65 =>
            intro K hK
            go_simp
            clear hHeld
            refine hK.out _ _ (by (try dsimp only); try exact trivial) (fun hHeld => ?_)
            clear hK K
            (try simp only [Act.put, List.setIfInBounds_toArray, List.set_cons_zero, List.set_cons_succ])
            refine' tk_call 5 ?hi58 (by kernel_rfl) ?hr58
            case hi58 => (simp only [List.getElem?_toArray, List.getElem?_cons_succ, List.getElem?_cons_zero]; rfl)
            intro K hK
            go_simp
            clear hHeld
            refine hK.out _ _ (by (try dsimp only); try exact trivial) (fun hHeld => ?_)
            clear hK K
            (try simp only [Act.put, List.setIfInBounds_toArray, List.set_cons_zero, List.set_cons_succ])
            refine' tk_any 10 70 (v := _) ?hi59 ?hd59 (by kernel_rfl) (by kernel_rfl) (by kernel_rfl) (fun _ _ _ h => h) ?hy59 hHeld ?hr59
            case hi59 => (simp only [List.getElem?_toArray, List.getElem?_cons_succ, List.getElem?_cons_zero]; rfl)
            case hd59 => rfl
            case hy59 =>
              refine' Or.inl ⟨?hw59, ?hx59⟩
              case hw59 => rfl
              case hx59 => (intro w hSw; (try dsimp only at hSw); go_simp; (try with_reducible rfl))
            (try simp only [Act.put, List.setIfInBounds_toArray, List.set_cons_zero, List.set_cons_succ])
            refine' tk_any 11 71 (v := _) ?hi60 ?hd60 (by kernel_rfl) (by kernel_rfl) (by kernel_rfl) (fun _ _ _ h => h) ?hy60 hHeld ?hr60
            case hi60 => (simp only [List.getElem?_toArray, List.getElem?_cons_succ, List.getElem?_cons_zero]; rfl)
            case hd60 => rfl
            case hy60 =>
              refine' Or.inl ⟨?hw60, ?hx60⟩
              case hw60 => rfl
              case hx60 => (intro w hSw; (try dsimp only at hSw); go_simp; (try with_reducible rfl))
            (try simp only [Act.put, List.setIfInBounds_toArray, List.set_cons_zero, List.set_cons_succ])
            refine' tk_call 12 ?hi61 (by kernel_rfl) ?hr61
            case hi61 => (simp only [List.getElem?_toArray, List.getElem?_cons_succ, List.getElem?_cons_zero]; rfl)
            intro K hK
            go_simp
            clear hHeld
            refine hK.out _ _ (by (try dsimp only); try exact trivial) (fun hHeld => ?_)
            clear hK K
            (try simp only [Act.put, List.setIfInBounds_toArray, List.set_cons_zero, List.set_cons_succ])
            refine' tk_any 13 72 (v := _) ?hi62 ?hd62 (by kernel_rfl) (by kernel_rfl) (by kernel_rfl) (fun _ _ _ h => h) ?hy62 hHeld ?hr62
            case hi62 => (simp only [List.getElem?_toArray, List.getElem?_cons_succ, List.getElem?_cons_zero]; rfl)
            case hd62 => rfl
            case hy62 =>
              refine' Or.inl ⟨?hw62, ?hx62⟩
              case hw62 => rfl
              case hx62 => (intro w hSw; (try dsimp only at hSw); go_simp; (try with_reducible rfl))
            (try simp only [Act.put, List.setIfInBounds_toArray, List.set_cons_zero, List.set_cons_succ])
            refine' tk_any 14 73 (v := _) ?hi63 ?hd63 (by kernel_rfl) (by kernel_rfl) (by kernel_rfl) (fun _ _ _ h => h) ?hy63 hHeld ?hr63
            case hi63 => (simp only [List.getElem?_toArray, List.getElem?_cons_succ, List.getElem?_cons_zero]; rfl)
            case hd63 => rfl
            case hy63 =>
              refine' Or.inl ⟨?hw63, ?hx63⟩
              case hw63 => rfl
              case hx63 => (intro w hSw; (try dsimp only at hSw); go_simp; (try with_reducible rfl))
            (try simp only [Act.put, List.setIfInBounds_toArray, List.set_cons_zero, List.set_cons_succ])
            refine' tk_call 15 ?hi64 (by kernel_rfl) ?hr64
            case hi64 => (simp only [List.getElem?_toArray, List.getElem?_cons_succ, List.getElem?_cons_zero]; rfl)
            intro K hK
            go_simp
            clear hHeld
            refine hK.out _ _ (by (try dsimp only); try exact trivial) (fun hHeld => ?_)
            clear hK K
            (try simp only [Act.put, List.setIfInBounds_toArray, List.set_cons_zero, List.set_cons_succ])
            refine wpAnyH_done (by kernel_rfl) ?_ _
            refine NoPanic.normal ?_
            go_wp2
            go_ret
            exact HPOST.out
end Go.Proofs.Ytfboejdddgedcaa
