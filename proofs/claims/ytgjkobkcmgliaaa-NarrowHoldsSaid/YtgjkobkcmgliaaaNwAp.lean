import Derived.Test.YtgjkobkcmgliaaaNwO
import Derived.Test.YtgjkobkcmgliaaaTyJp
namespace Go.Proofs.Ytgjkobkcmgliaaa
open Go.RowKit

theorem row_step (ts : List Ty) (n i : Nat) (hn : n = ts.length) (hi : i < n) : (ts.take i ++ List.replicate (n - i) ty0).set i (ts.getD i ty0) = ts.take (i + 1) ++ List.replicate (n - (i + 1)) ty0 := by
  have e0 : ts.getD i ty0 = ts[i]'(by omega) := by simp [List.getD_eq_getElem?_getD, show i < ts.length by omega]
  have e1 : n - i = (n - (i + 1)) + 1 := by omega
  have e2 : (ts.take i).length = i := by simp; omega
  rw [List.take_succ_eq_append_getElem (by omega : i < ts.length), e1, List.replicate_succ, e0]
  rw [List.set_append_right _ _ (by omega), e2, Nat.sub_self, List.set_cons_zero, List.append_assoc, List.singleton_append]
theorem steps_hd (l : List (Int × Int)) : ∀ (ts : List Ty), (∀ t ∈ ts, HdT t) → ∀ t ∈ l.foldl step1 ts, HdT t := by
  induction l with
  | nil => exact fun ts h => h
  | cons f s ih =>
    intro ts h
    refine ih _ ?_
    unfold step1
    split
    · rename_i hc
      intro t ht
      rcases List.mem_or_eq_of_mem_set ht with h1 | h1
      · exact h t h1
      · rw [h1]
        have hj : f.1.toNat < ts.length := by omega
        have e0 : ts.getD f.1.toNat ty0 = ts[f.1.toNat]'hj := by simp [List.getD_eq_getElem?_getD, hj]
        exact hd_keep (h _ (by rw [e0]; exact List.getElem_mem hj)) _
    · exact h
theorem getD_hd {ts : List Ty} (h : ∀ t ∈ ts, HdT t) {j : Nat} (hj : j < ts.length) : HdT (ts.getD j ty0) := by
  have e0 : ts.getD j ty0 = ts[j]'hj := by simp [List.getD_eq_getElem?_getD, hj]
  exact h _ (by rw [e0]; exact List.getElem_mem hj)
theorem steps_len (l : List (Int × Int)) : ∀ (ts : List Ty), (l.foldl step1 ts).length = ts.length := by
  induction l with
  | nil => exact fun _ => rfl
  | cons f s ih =>
    intro ts
    rw [List.foldl_cons, ih]
    unfold step1
    split
    · simp
    · rfl
theorem steps_snoc (ts : List Ty) (l : List (Int × Int)) (j : Nat) (hj : j < l.length) {x y : Int} (hx : (l.getD j fa0).1 = x) (hy : (l.getD j fa0).2 = y) : (l.take (j + 1)).foldl step1 ts = step1 ((l.take j).foldl step1 ts) (x, y) := by
  have e0 : l.getD j fa0 = l[j]'hj := by simp [List.getD_eq_getElem?_getD, hj]
  rw [List.take_succ_eq_append_getElem hj, List.foldl_append, ← hx, ← hy, e0]
  rfl
theorem step_out {T : List Ty} {x y : Int} (h : ¬ (0 ≤ x ∧ x < T.length)) : step1 T (x, y) = T := if_neg h
theorem step_in {T : List Ty} {j : Nat} {y : Int} (h : j < T.length) : step1 T ((j : Int), y) = T.set j (keepT (T.getD j ty0) (lowN y)) := by
  unfold step1
  rw [if_pos ⟨Int.natCast_nonneg _, by show (j : Int) < T.length; omega⟩]
  rfl
def ApRel (n : Nat) (W : World) (len : Nat) (f : Nat → List Ty) (iv : Value) (wr : World) : Prop :=
  ∃ i : Nat, i ≤ len ∧ iv = .int .i64 i ∧ Hid (RowG W.heap.size n wr (f i)) ∧ Hid (Below W.heap.size W wr)

set_option maxRecDepth 100000 in
set_option maxHeartbeats 16000000 in
theorem apply_p (B : Nat) (ts : List Ty) (nv : Bool) (l : List (Int × Int)) (ea fa : Option Addr) (n m ec fc : Nat) (w : World) (hn : n = ts.length) (hn8 : n ≤ 1000) (hm : m = l.length) (hm2 : m ≤ 30000) (hok : ∀ t ∈ ts, HdT t) (hts : TyS w (Lo N0 w) (.slice ea n ec) ts) (hF : FaB B w (.slice fa m fc) l) :
    Calls Try.prog 21 #[.slice ea n ec, .agg #[.bool nv, .slice fa m fc]] w fun e w' => ∃ g, e = .returned (.slice (some ⟨g, 0, none⟩) n n) ∧ w.heap.size ≤ g ∧ RowG g n w' (applyT ts ⟨nv, l⟩) ∧ Below w.heap.size w w' := by
  obtain ⟨W, hW⟩ : ∃ W, W = w.alloc (.cells #[.bool nv, .slice fa m fc] 30) := ⟨_, rfl⟩
  have HX := Lib.hid (show Bx W w.heap.size 30 #[.bool nv, .slice fa m fc] by rw [hW]; exact alloc_at rfl)
  have HL := Lib.hid (show Below w.heap.size w W by rw [hW]; exact (Below.refl _ _).alloc (Nat.le_refl _) _)
  have HSZ := Lib.hid (show W.heap.size = w.heap.size + 1 by rw [hW]; simp)
  have HLT := Lib.hid (show w.heap.size < W.heap.size by rw [hW]; simp)
  have mk := mkty_any n (by omega) W
  have HG0 := Lib.hid (RowG.made n (by omega) W)
  have HB0 := Lib.hid (show Below W.heap.size W (W.alloc (.cells (rawsCells (List.replicate n raw0)).toArray 49)) from (Below.refl _ _).alloc (Nat.le_refl _) _)
  have HN := Lib.hid hn
  have HM := Lib.hid hm
  have HOK := Lib.hid hok
  have HTS := Lib.hid hts
  have HF := Lib.hid hF
  have b1 : (n : Int) ≤ 1000 := by omega
  have b2 : (m : Int) ≤ 30000 := by omega
  obtain ⟨wm, hwm⟩ : ∃ wm, wm = W.alloc (.cells (rawsCells (List.replicate n raw0)).toArray 49) := ⟨_, rfl⟩
  rw [← hwm] at HG0 HB0 mk
  have HX0 := Lib.hid (HX.out.keep HB0.out)
  have px0 : wm.cell? ⟨w.heap.size, 0, none⟩ = some (.bool nv) := HX0.out.c0
  have HW := Lib.hid hW
  clear hn hm hok hts hF hW hwm
  go_enter Try.func21, Try.ntmps21
  go_upto_region 1 with fail
  rw [← HW.out]
  cases nv with
  | true =>
    go_wp2
    refine bodyPost_ret (v := .slice (some ⟨W.heap.size, 0, none⟩) n n) ?_ ?_ ?_
    · simp [results, Try.results21, go_sem]
    · rfl
    · refine ⟨W.heap.size, rfl, Nat.le_of_lt HLT.out, ?_, HL.out.trans (HB0.out.mono HL.out.size)⟩
      show RowG W.heap.size n wm (List.replicate ts.length ty0)
      rw [← HN.out]; exact HG0.out
  | false =>
    go_wp2
    go_loopw [18] (fun iv wr => ApRel n W n (fun i => ts.take i ++ List.replicate (n - i) ty0) iv wr) (fun iv _ => n - (intOf iv).toNat)
    case atStart => exact ⟨0, Nat.zero_le _, rfl, HG0, HB0⟩
    case round =>
      obtain ⟨i, hi1, rfl, HG, HB⟩ := hrel
      by_cases hlt : i < n
      · have hil : i < ts.length := by rw [← HN.out]; exact hlt
        have HBW := Lib.hid (HL.out.trans (HB.out.mono HL.out.size))
        obtain ⟨d, hd⟩ : ∃ d, ts.getD i ty0 = d := ⟨_, rfl⟩
        have HHD := Lib.hid (show HdT d by rw [← hd]; exact getD_hd HOK.out hil)
        obtain ⟨b, off, p1, c1, p2, c2, rfl, hb, e0, e1, e2, e3, e4, e5, hv⟩ := TySN.elem (TySN.later (M := (· = W.heap.size)) HTS.out HBW.out fun b hb => .inr (by rw [hb]; exact HL.out.size)) hil hd
        have HDD := Lib.hid hd
        have HV := Lib.hid hv
        clear hd hv
        have h0 : (0 : Int) ≤ (i : Int) := Int.natCast_nonneg _
        have h1 : (i : Int) < (n : Int) := by omega
        go_wp2_with fail
        obtain ⟨wq, hwq⟩ : ∃ wq, wq = wr.alloc (.cells #[.bool d.all, .int .i64 d.flat, .int .i64 d.pair, .slice p1 d.pairs.length c1, .int .i64 d.fn, .slice p2 d.funs.length c2] 49) := ⟨_, rfl⟩
        rw [← hwq]
        have hbq : Below wr.heap.size wr wq := by rw [hwq]; exact (Below.refl _ _).alloc (Nat.le_refl _) _
        refine (ownrows_p (· = W.heap.size) d _ wq (fun b hb => ?_) (Nat.le_trans (hd_lens HHD.out).1 (by decide)) (Nat.le_trans (hd_lens HHD.out).2 (by decide)) ?_).mono ?_
        · rw [hb]; exact Nat.lt_of_lt_of_le HG.out.lt hbq.size
        · exact TyVN.below HV.out hbq
        rintro e w2 ⟨⟨v, rfl, hv2⟩, hb2⟩
        obtain ⟨a, f, p, pa, np, pc, k, ga, nf, gc, rfl⟩ := TyVN.shape hv2
        have HG2 := Lib.hid ((HG.out.keep hbq).keep hb2)
        have HB2 := Lib.hid ((HB.out.trans (hbq.mono HB.out.size)).trans (hb2.mono (Nat.le_trans HB.out.size hbq.size)))
        have HV2 := Lib.hid hv2
        obtain ⟨a', f', p', pa', pn', pc', k', fa', fn', fc', d0, d1, d2, d3, d4, d5, hfr, _⟩ := HG2.out.get hlt
        have q0 := hfr (i * 6)
        have q1 := hfr (i * 6 + 1)
        have q2 := hfr (i * 6 + 2)
        have q3 := hfr (i * 6 + 3)
        have q4 := hfr (i * 6 + 4)
        have q5 := hfr (i * 6 + 5)
        clear hbq hb2 hv2 hfr hwq e0 e1 e2 e3 e4 e5
        go_wp2
        refine ⟨⟨i + 1, hlt, by go_num, Lib.hid ?_, Lib.hid ?_⟩, ?_⟩
        · show RowG W.heap.size n _ (ts.take (i + 1) ++ List.replicate (n - (i + 1)) ty0)
          rw [← row_step ts n i HN.out hlt, HDD.out]
          exact HG2.out.set hlt HV2.out
        · exact (((((HB2.out.setCell (Nat.le_refl _) _).setCell (Nat.le_refl _) _).setCell (Nat.le_refl _) _).setCell (Nat.le_refl _) _).setCell (Nat.le_refl _) _).setCell (Nat.le_refl _) _
        · simp [intOf]; omega
      · have hin : i = n := by omega
        have HGT := Lib.hid (show RowG W.heap.size n wr (([] : List (Int × Int)).foldl step1 ts) by
          have h : RowG W.heap.size n wr (ts.take i ++ List.replicate (n - i) ty0) := HG.out
          rw [hin, Nat.sub_self, HN.out, List.take_length] at h
          rw [HN.out]
          simpa using h)
        have hx1 := HX.out.keep HB.out
        have px1 : wr.cell? ⟨w.heap.size, 1, none⟩ = some (.slice fa m fc) := hx1.c1
        clear hx1
        go_wp2
        go_loopw [32] (fun iv wx => ApRel n W m (fun i => (l.take i).foldl step1 ts) iv wx) (fun iv _ => m - (intOf iv).toNat)
        case atStart => exact ⟨0, Nat.zero_le _, rfl, HGT, HB⟩
        case round =>
          obtain ⟨j, hj1, rfl, HGJ, HBJ⟩ := hrel
          by_cases hjt : j < m
          · have hjl : j < l.length := by rw [← HM.out]; exact hjt
            have HBX := Lib.hid (HL.out.trans (HBJ.out.mono HL.out.size))
            obtain ⟨q, off, rfl, _, hq2, hc0, hc1⟩ := HF.out.get hjl
            obtain ⟨x, hx⟩ : ∃ x, (l.getD j fa0).1 = x := ⟨_, rfl⟩
            obtain ⟨y, hy⟩ : ∃ y, (l.getD j fa0).2 = y := ⟨_, rfl⟩
            rw [hx] at hc0
            rw [hy] at hc1
            have hci : wr.cell? ⟨q, off + j * 2, none⟩ = some (.int .i64 x) := (HBX.out.cell (p := ⟨q, _, none⟩) hq2).trans hc0
            have hcj : wr.cell? ⟨q, off + j * 2 + 1, none⟩ = some (.int .i64 y) := (HBX.out.cell (p := ⟨q, _, none⟩) hq2).trans hc1
            have HXX := Lib.hid hx
            have HYY := Lib.hid hy
            have hl0 : (0 : Int) ≤ (j : Int) := Int.natCast_nonneg _
            have hl1 : (j : Int) < (m : Int) := by omega
            clear hx hy hc0 hc1
            obtain ⟨T, hT⟩ : ∃ T, T = (l.take j).foldl step1 ts := ⟨_, rfl⟩
            have HTT := Lib.hid hT
            replace HGJ : Hid (RowG W.heap.size n wr ((l.take j).foldl step1 ts)) := HGJ
            rw [← hT] at HGJ
            clear hT
            by_cases hx0 : 0 ≤ x
            · by_cases hxn : x < (n : Int)
              · obtain ⟨jx, rfl⟩ : ∃ jx : Nat, x = jx := ⟨x.toNat, by omega⟩
                have hjx : jx < n := by omega
                go_upto_region 13 with fail
                obtain ⟨wa, hwa⟩ : ∃ wa, wa = wr.alloc (.cells #[.int .i64 (jx : Int), .int .i64 y] 61) := ⟨_, rfl⟩
                rw [← hwa]
                have hba : Below wr.heap.size wr wa.drew := by rw [hwa]; exact ((Below.refl _ _).alloc (Nat.le_refl _) _).drew
                have hqa : Bx wa.drew wr.heap.size 61 #[.int .i64 (jx : Int), .int .i64 y] := by rw [hwa]; exact Bx.made wr _ _
                have HGA := Lib.hid (HGJ.out.keep hba)
                have HBA := Lib.hid (HBJ.out.trans (hba.mono HBJ.out.size))
                have z0 := hqa.c0
                have z1 := hqa.c1
                have HNE := Lib.hid (show wr.heap.size ≠ W.heap.size from by have := HGJ.out.lt; omega)
                have HQA := Lib.hid hqa
                obtain ⟨a, f, p, pa, np, pc, k, ga, nf, gc, d0, d1, d2, d3, d4, d5, _, hv0⟩ := HGA.out.get hjx
                have HV0 := Lib.hid hv0
                have HTD := Lib.hid (show HdT (T.getD jx ty0) from getD_hd (by rw [HTT.out]; exact steps_hd _ _ HOK.out) (by rw [HGJ.out.1]; exact hjx))
                clear hba hqa hv0 hwa hci hcj
                (try dsimp only [List.append])
                refine wp_region_noPanic ?_
                refine wp_region_held_drew (S := (fun w' => w'.cell? ⟨wr.heap.size, 0, none⟩ = some (.int .i64 (jx : Int)) ∧ w'.cell? ⟨wr.heap.size, 1, none⟩ = some (.int .i64 y))) (by kernel_rfl) (by (try dsimp only); exact ⟨z0, z1⟩) (fun hHeld => ?_)
                generalize wa.drew = wd at hHeld HGA HBA z0 z1 HQA HV0 d0 d1 d2 d3 d4 d5 ⊢
                refine' tk_any 0 46 (v := _) ?hi40001 ?hd40001 (by kernel_rfl) (by kernel_rfl) (by kernel_rfl) (fun _ _ _ h => h) ?hy40001 hHeld ?hr40001
                case hi40001 => (simp only [List.getElem?_toArray, List.getElem?_cons_zero]; rfl)
                case hd40001 => rfl
                case hy40001 =>
                  refine' Or.inl ⟨?hw40001, ?hx40001⟩
                  case hw40001 => rfl
                  case hx40001 => (intro w hSw; (try dsimp only at hSw); go_simp; (try with_reducible rfl))
                (try simp only [Act.put, List.setIfInBounds_toArray, List.set_cons_zero, List.set_cons_succ])
                refine' tk_any 1 47 (v := _) ?hi40002 ?hd40002 (by kernel_rfl) (by kernel_rfl) (by kernel_rfl) (fun _ _ _ h => h) ?hy40002 hHeld ?hr40002
                case hi40002 => (simp only [List.getElem?_toArray, List.getElem?_cons_succ, List.getElem?_cons_zero]; rfl)
                case hd40002 => rfl
                case hy40002 =>
                  refine' Or.inl ⟨?hw40002, ?hx40002⟩
                  case hw40002 => rfl
                  case hx40002 => (intro w hSw; (try dsimp only at hSw); go_simp; (try with_reducible rfl))
                (try simp only [Act.put, List.setIfInBounds_toArray, List.set_cons_zero, List.set_cons_succ])
                refine' tk_any 2 48 (v := _) ?hi40003 ?hd40003 (by kernel_rfl) (by kernel_rfl) (by kernel_rfl) (fun _ _ _ h => h) ?hy40003 hHeld ?hr40003
                case hi40003 => (simp only [List.getElem?_toArray, List.getElem?_cons_succ, List.getElem?_cons_zero]; rfl)
                case hd40003 => rfl
                case hy40003 =>
                  refine' Or.inl ⟨?hw40003, ?hx40003⟩
                  case hw40003 => rfl
                  case hx40003 => (intro w hSw; (try dsimp only at hSw); go_simp; (try with_reducible rfl))
                (try simp only [Act.put, List.setIfInBounds_toArray, List.set_cons_zero, List.set_cons_succ])
                refine' tk_any 3 49 (v := _) ?hi40004 ?hd40004 (by kernel_rfl) (by kernel_rfl) (by kernel_rfl) (fun _ _ _ h => h) ?hy40004 hHeld ?hr40004
                case hi40004 => (simp only [List.getElem?_toArray, List.getElem?_cons_succ, List.getElem?_cons_zero]; rfl)
                case hd40004 => rfl
                case hy40004 =>
                  refine' Or.inl ⟨?hw40004, ?hx40004⟩
                  case hw40004 => rfl
                  case hx40004 => (intro w hSw; (try dsimp only at hSw); go_simp; (try with_reducible rfl))
                (try simp only [Act.put, List.setIfInBounds_toArray, List.set_cons_zero, List.set_cons_succ])
                refine' tk_any 4 50 (v := _) ?hi40005 ?hd40005 (by kernel_rfl) (by kernel_rfl) (by kernel_rfl) (fun _ _ _ h => h) ?hy40005 hHeld ?hr40005
                case hi40005 => (simp only [List.getElem?_toArray, List.getElem?_cons_succ, List.getElem?_cons_zero]; rfl)
                case hd40005 => rfl
                case hy40005 =>
                  refine' Or.inl ⟨?hw40005, ?hx40005⟩
                  case hw40005 => rfl
                  case hx40005 => (intro w hSw; (try dsimp only at hSw); go_simp; (try with_reducible rfl))
                (try simp only [Act.put, List.setIfInBounds_toArray, List.set_cons_zero, List.set_cons_succ])
                refine' tk_any 5 51 (v := _) ?hi40006 ?hd40006 (by kernel_rfl) (by kernel_rfl) (by kernel_rfl) (fun _ _ _ h => h) ?hy40006 hHeld ?hr40006
                case hi40006 => (simp only [List.getElem?_toArray, List.getElem?_cons_succ, List.getElem?_cons_zero]; rfl)
                case hd40006 => rfl
                case hy40006 =>
                  refine' Or.inl ⟨?hw40006, ?hx40006⟩
                  case hw40006 => rfl
                  case hx40006 => (intro w hSw; (try dsimp only at hSw); go_simp; (try with_reducible rfl))
                (try simp only [Act.put, List.setIfInBounds_toArray, List.set_cons_zero, List.set_cons_succ])
                refine' tk_any 6 52 (v := _) ?hi40007 ?hd40007 (by kernel_rfl) (by kernel_rfl) (by kernel_rfl) (fun _ _ _ h => h) ?hy40007 hHeld ?hr40007
                case hi40007 => (simp only [List.getElem?_toArray, List.getElem?_cons_succ, List.getElem?_cons_zero]; rfl)
                case hd40007 => rfl
                case hy40007 =>
                  refine' Or.inl ⟨?hw40007, ?hx40007⟩
                  case hw40007 => rfl
                  case hx40007 => (intro w hSw; (try dsimp only at hSw); go_simp; (try with_reducible rfl))
                (try simp only [Act.put, List.setIfInBounds_toArray, List.set_cons_zero, List.set_cons_succ])
                refine' tk_any 8 54 (v := _) ?hi40008 ?hd40008 (by kernel_rfl) (by kernel_rfl) (by kernel_rfl) (fun _ _ _ h => h) ?hy40008 hHeld ?hr40008
                case hi40008 => (simp only [List.getElem?_toArray, List.getElem?_cons_succ, List.getElem?_cons_zero]; rfl)
                case hd40008 => rfl
                case hy40008 =>
                  refine' Or.inl ⟨?hw40008, ?hx40008⟩
                  case hw40008 => rfl
                  case hx40008 => (intro w hSw; (try dsimp only at hSw); go_simp; (try with_reducible rfl))
                (try simp only [Act.put, List.setIfInBounds_toArray, List.set_cons_zero, List.set_cons_succ])
                refine' tk_any 9 55 (v := _) ?hi40009 ?hd40009 (by kernel_rfl) (by kernel_rfl) (by kernel_rfl) (fun _ _ _ h => h) ?hy40009 hHeld ?hr40009
                case hi40009 => (simp only [List.getElem?_toArray, List.getElem?_cons_succ, List.getElem?_cons_zero]; rfl)
                case hd40009 => rfl
                case hy40009 =>
                  refine' Or.inl ⟨?hw40009, ?hx40009⟩
                  case hw40009 => rfl
                  case hx40009 => (intro w hSw; (try dsimp only at hSw); go_simp; (try with_reducible rfl))
                (try simp only [Act.put, List.setIfInBounds_toArray, List.set_cons_zero, List.set_cons_succ])
                refine' tk_call 7 ?hi40010 (by kernel_rfl) ?hr40010
                case hi40010 => (simp only [List.getElem?_toArray, List.getElem?_cons_succ, List.getElem?_cons_zero]; rfl)
                intro K hK
                go_simp
                clear hHeld
                refine hK.out _ _ (by (try dsimp only); exact ⟨z0, z1⟩) (fun hHeld => ?_)
                clear hK K
                (try simp only [Act.put, List.setIfInBounds_toArray, List.set_cons_zero, List.set_cons_succ])
                refine' tk_call 10 ?hi40011 (by kernel_rfl) ?hr40011
                case hi40011 => (simp only [List.getElem?_toArray, List.getElem?_cons_succ, List.getElem?_cons_zero]; rfl)
                intro K hK
                go_simp
                go_at_call 24
                refine (keep_p (· = W.heap.size) (T.getD jx ty0) y _ wd (fun b hb => by rw [hb]; exact HGA.out.lt) HTD.out HV0.out).mono ?_
                rintro e w2 ⟨⟨v, rfl, hv2⟩, hb2⟩
                obtain ⟨a2, f2, p2, pa2, np2, pc2, k2, ga2, nf2, gc2, rfl⟩ := TyVN.shape hv2
                have HG2 := Lib.hid (HGA.out.keep hb2)
                have HB2 := Lib.hid (HBA.out.trans (hb2.mono HBA.out.size))
                have HV2 := Lib.hid hv2
                obtain ⟨a', f', p', pa', pn', pc', k', fa', fn', fc', d0, d1, d2, d3, d4, d5, hfr, _⟩ := HG2.out.get hjx
                have q0 := hfr (jx * 6)
                have q1 := hfr (jx * 6 + 1)
                have q2 := hfr (jx * 6 + 2)
                have q3 := hfr (jx * 6 + 3)
                have q4 := hfr (jx * 6 + 4)
                have q5 := hfr (jx * 6 + 5)
                have y0 := (HQA.out.keep hb2).c0
                have y1 := (HQA.out.keep hb2).c1
                clear hb2 hv2 hfr z0 z1
                go_wp2_with fail
                clear hHeld
                refine hK.out _ _ (by (try dsimp only); exact ⟨y0, y1⟩) (fun hHeld => ?_)
                clear hK K
                (try simp only [Act.put, List.setIfInBounds_toArray, List.set_cons_zero, List.set_cons_succ])
                refine' tk_any 11 57 (v := _) ?hi40012 ?hd40012 (by kernel_rfl) (by kernel_rfl) (by kernel_rfl) (fun _ _ _ h => h) ?hy40012 hHeld ?hr40012
                case hi40012 => (simp only [List.getElem?_toArray, List.getElem?_cons_succ, List.getElem?_cons_zero]; rfl)
                case hd40012 => rfl
                case hy40012 =>
                  refine' Or.inl ⟨?hw40012, ?hx40012⟩
                  case hw40012 => rfl
                  case hx40012 => (intro w hSw; (try dsimp only at hSw); go_simp; (try with_reducible rfl))
                (try simp only [Act.put, List.setIfInBounds_toArray, List.set_cons_zero, List.set_cons_succ])
                refine' tk_call 12 ?hi40013 (by kernel_rfl) ?hr40013
                case hi40013 => (simp only [List.getElem?_toArray, List.getElem?_cons_succ, List.getElem?_cons_zero]; rfl)
                intro K hK
                go_simp
                clear hHeld
                refine hK.out _ _ (by (try dsimp only); exact ⟨set_blk HNE.out (set_blk HNE.out (set_blk HNE.out (set_blk HNE.out (set_blk HNE.out (set_blk HNE.out y0))))), set_blk HNE.out (set_blk HNE.out (set_blk HNE.out (set_blk HNE.out (set_blk HNE.out (set_blk HNE.out y1)))))⟩) (fun hHeld => ?_)
                clear hK K
                (try simp only [Act.put, List.setIfInBounds_toArray, List.set_cons_zero, List.set_cons_succ])
                refine wpAnyH_done (by kernel_rfl) ?_ _
                refine NoPanic.normal ?_
                go_wp2
                refine ⟨⟨j + 1, hjt, by go_num, Lib.hid ?_, Lib.hid ?_⟩, by simp [intOf]; omega⟩
                · show RowG W.heap.size n _ ((l.take (j + 1)).foldl step1 ts)
                  rw [steps_snoc ts l j hjl HXX.out HYY.out, ← HTT.out, step_in (by rw [HGJ.out.1]; exact hjx)]
                  exact HG2.out.set hjx HV2.out
                · exact (((((HB2.out.setCell (Nat.le_refl _) _).setCell (Nat.le_refl _) _).setCell (Nat.le_refl _) _).setCell (Nat.le_refl _) _).setCell (Nat.le_refl _) _).setCell (Nat.le_refl _) _
              · go_wp2
                refine ⟨⟨j + 1, hjt, by go_num, Lib.hid ?_, Lib.hid (HBJ.out.alloc HBJ.out.size _)⟩, by simp [intOf]; omega⟩
                show RowG W.heap.size n _ ((l.take (j + 1)).foldl step1 ts)
                rw [steps_snoc ts l j hjl HXX.out HYY.out, ← HTT.out, step_out (by rw [HGJ.out.1]; omega)]
                exact HGJ.out.keep ((Below.refl _ _).alloc (Nat.le_refl _) _)
            · go_wp2
              refine ⟨⟨j + 1, hjt, by go_num, Lib.hid ?_, Lib.hid (HBJ.out.alloc HBJ.out.size _)⟩, by simp [intOf]; omega⟩
              show RowG W.heap.size n _ ((l.take (j + 1)).foldl step1 ts)
              rw [steps_snoc ts l j hjl HXX.out HYY.out, ← HTT.out, step_out (by rw [HGJ.out.1]; omega)]
              exact HGJ.out.keep ((Below.refl _ _).alloc (Nat.le_refl _) _)
          · have hjm : j = m := by omega
            have HGR := Lib.hid (show RowG W.heap.size n wr (applyT ts ⟨false, l⟩) by
              have h : RowG W.heap.size n wr ((l.take j).foldl step1 ts) := HGJ.out
              rw [hjm, HM.out, List.take_length] at h
              exact h)
            have HBZ := Lib.hid (HL.out.trans (HBJ.out.mono HL.out.size))
            go_wp2
            refine bodyPost_ret (v := .slice (some ⟨W.heap.size, 0, none⟩) n n) ?_ ?_ ?_
            · simp [results, Try.results21, go_sem]
            · rfl
            · exact ⟨W.heap.size, rfl, Nat.le_of_lt HLT.out, HGR.out, HBZ.out⟩
end Go.Proofs.Ytgjkobkcmgliaaa
