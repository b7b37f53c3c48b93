import Derived.Test.YtgjkobkcmgliaaaNwZ
import Derived.Test.YtgjkobkcmgliaaaNwG
namespace Go.Proofs.Ytgjkobkcmgliaaa
open Go.RowKit

theorem norm1_go (q B n c : Nat) (a : Option Addr) (l : List (Int × Int)) (w : World) (hq : q < w.heap.size) (hn : n = l.length) (hm : n ≤ 20000) (hf : FaB B w (.slice a n c) l) (hc : w.cell? ⟨q, 0, none⟩ = some (.slice a n c)) :
    Calls Try.prog 45 #[.slice (some ⟨q, 0, none⟩) 1 1] w (SlPost (nrm l) w) :=
  normal_core _ n l w hn (by omega) (fconcat1_go q B a n c l w hq hn hm hf hc) q 1 rfl
theorem norm2_go (q B B' n c m d : Nat) (a b : Option Addr) (l k : List (Int × Int)) (w : World) (hq : q < w.heap.size) (hn : n = l.length) (hm : n ≤ 20000) (hf : FaB B w (.slice a n c) l) (hc : w.cell? ⟨q, 0, none⟩ = some (.slice a n c)) (hk : m = k.length) (hm2 : m ≤ 20000) (hg : FaB B' w (.slice b m d) k) (hd : w.cell? ⟨q, 1, none⟩ = some (.slice b m d)) :
    Calls Try.prog 45 #[.slice (some ⟨q, 0, none⟩) 2 2] w (SlPost (nrm (l ++ k)) w) :=
  normal_core _ (n + m) (l ++ k) w (by rw [List.length_append, hn, hk]) (by omega) (fconcat2_go q B a n c l B' b m d k w hq hn hm hf hc hk hm2 hg hd) q 2 rfl
theorem SlPost.val {l : List (Int × Int)} {w w' : World} {v : Value} (h : FaB w.heap.size w' v l) : ∃ a c n, v = .slice a n c ∧ n = l.length := by
  obtain ⟨a, c, e⟩ := h.val
  exact ⟨a, c, _, e, rfl⟩

set_option maxRecDepth 100000 in
set_option maxHeartbeats 8000000 in
theorem pand_never (a b : Option Addr) (c d n m : Nat) (nv nw : Bool) (w : World) (h : (nv || nw) = true) :
    Calls Try.prog 15 #[.agg #[.bool nv, .slice a n c], .agg #[.bool nw, .slice b m d]] w (FcPost ⟨true, []⟩ w) := by
  cases nv with
  | true =>
    clear h
    go_enter Try.func15, Try.ntmps15
    go_wp2
    refine bodyPost_ret (v := .agg #[.bool true, .slice none 0 0]) ?_ ?_ ?_
    · simp [results, Try.results15, go_sem]
    · rfl
    · exact ⟨⟨_, rfl, none, 0, rfl, FaB.nil _ _ _ _⟩, (((Below.refl _ _).alloc (Nat.le_refl _) _).alloc (by simp) _).alloc (by simp; omega) _⟩
  | false =>
    obtain rfl : nw = true := h
    go_enter Try.func15, Try.ntmps15
    go_wp2
    refine bodyPost_ret (v := .agg #[.bool true, .slice none 0 0]) ?_ ?_ ?_
    · simp [results, Try.results15, go_sem]
    · rfl
    · exact ⟨⟨_, rfl, none, 0, rfl, FaB.nil _ _ _ _⟩, (((Below.refl _ _).alloc (Nat.le_refl _) _).alloc (by simp) _).alloc (by simp; omega) _⟩

set_option maxRecDepth 100000 in
set_option maxHeartbeats 8000000 in
theorem pand_some (B B' : Nat) (a b : Option Addr) (c d n m : Nat) (l k : List (Int × Int)) (w : World) (hm : n + m ≤ 10000) (hn : n = l.length) (hk : m = k.length) (hr : FaB B w (.slice a n c) l) (hs : FaB B' w (.slice b m d) k) :
    Calls Try.prog 15 #[.agg #[.bool false, .slice a n c], .agg #[.bool false, .slice b m d]] w (FcPost ⟨false, nrm (l ++ k)⟩ w) := by
  obtain ⟨W, hW⟩ : ∃ W, W = (((w.alloc (.cells #[.bool false, .slice a n c] 30)).alloc (.cells #[.bool false, .slice b m d] 30)).alloc (.cells #[.bool false, .slice none 0 0] 30)).alloc (.cells #[.slice a n c, .slice b m d] 28) := ⟨_, rfl⟩
  have hbr : Bx W (w.heap.size + 1 + 1) 30 #[.bool false, .slice none 0 0] := by rw [hW]; exact alloc_past (alloc_at (by simp)) (by simp)
  have hbq : Bx W (w.heap.size + 1 + 1 + 1) 28 #[.slice a n c, .slice b m d] := by rw [hW]; exact alloc_at (by simp)
  have hbl : Below w.heap.size w W := by rw [hW]; exact ((((Below.refl _ _).alloc (Nat.le_refl _) _).alloc (by simp) _).alloc (by simp <;> omega) _).alloc (by simp <;> omega) _
  have hsz : W.heap.size = w.heap.size + 1 + 1 + 1 + 1 := by rw [hW]; simp
  have HC := Lib.hid (norm2_go (w.heap.size + 1 + 1 + 1) B B' n c m d a b l k W hbq.lt hn (by omega) (hr.below hbl) hbq.c0 hk (by omega) (hs.below hbl) hbq.c1)
  have HR := Lib.hid hbr
  have HL := Lib.hid hbl
  have HSZ := Lib.hid hsz
  have HW := Lib.hid hW
  clear hbr hbq hbl hsz hW hr hs hn hk hm
  go_enter Try.func15, Try.ntmps15
  go_wp2_with fail
  rw [← HW.out]
  refine HC.out.mono ?_
  rintro e w1 ⟨⟨v, rfl, hf⟩, hb1⟩
  obtain ⟨va, vc, vn, rfl, hvn⟩ := SlPost.val hf
  have hr1 := HR.out.keep hb1
  have r0 := hr1.c0
  have r1 := hr1.c1
  have f0 := hr1.fr 0
  have f1 := hr1.fr 1
  have HF := Lib.hid hf
  have HB1 := Lib.hid (HL.out.trans (hb1.mono HL.out.size))
  have HVN := Lib.hid hvn
  clear hr1 hf hb1 hvn HC HW
  go_wp2
  refine bodyPost_ret (v := .agg #[.bool false, .slice va vn vc]) ?_ ?_ ?_
  · simp [results, Try.results15, go_sem, r0, r1]
  · rfl
  · exact fc_pass (F := ⟨false, nrm (l ++ k)⟩) (by omega) (by have := HSZ.out; omega) HVN.out rfl HF.out HB1.out

theorem pand_go (B B' : Nat) (a b : Option Addr) (c d n m : Nat) (F G : Fcs) (w : World) (hm : n + m ≤ 10000) (hn : n = F.l.length) (hk : m = G.l.length) (hr : FaB B w (.slice a n c) F.l) (hs : FaB B' w (.slice b m d) G.l) :
    Calls Try.prog 15 #[.agg #[.bool F.never, .slice a n c], .agg #[.bool G.never, .slice b m d]] w (FcPost (andF F G) w) := by
  unfold andF
  cases h : (F.never || G.never) with
  | true => rw [if_pos rfl]; exact pand_never a b c d n m _ _ w h
  | false =>
    rw [Bool.or_eq_false_iff] at h
    rw [if_neg (by simp), h.1, h.2]
    exact pand_some B B' a b c d n m F.l G.l w hm hn hk hr hs

set_option maxRecDepth 100000 in
set_option maxHeartbeats 8000000 in
theorem por_left (B : Nat) (a b : Option Addr) (c d n m : Nat) (nw : Bool) (l : List (Int × Int)) (w : World) (hm : m ≤ 9000) (hn : m = l.length) (hr : FaB B w (.slice b m d) l) :
    Calls Try.prog 17 #[.agg #[.bool true, .slice a n c], .agg #[.bool nw, .slice b m d]] w (FcPost (andF ⟨nw, l⟩ fcs0) w) := by
  obtain ⟨W, hW⟩ : ∃ W, W = ((w.alloc (.cells #[.bool true, .slice a n c] 30)).alloc (.cells #[.bool nw, .slice b m d] 30)).alloc (.cells #[.bool false, .slice none 0 0] 30) := ⟨_, rfl⟩
  have hbr : Bx W (w.heap.size + 1 + 1) 30 #[.bool false, .slice none 0 0] := by rw [hW]; exact alloc_at (by simp)
  have hbl : Below w.heap.size w W := by rw [hW]; exact (((Below.refl _ _).alloc (Nat.le_refl _) _).alloc (by simp) _).alloc (by simp <;> omega) _
  have hsz : W.heap.size = w.heap.size + 1 + 1 + 1 := by rw [hW]; simp
  have HC := Lib.hid (pand_go B 0 b none d 0 m 0 ⟨nw, l⟩ fcs0 W (by omega) hn rfl (hr.below hbl) (FaB.nil 0 W none 0))
  have HR := Lib.hid hbr
  have HL := Lib.hid hbl
  have HSZ := Lib.hid hsz
  have HW := Lib.hid hW
  clear hbr hbl hsz hW hr hn hm
  go_enter Try.func17, Try.ntmps17
  go_wp2_with fail
  rw [← HW.out]
  refine HC.out.mono ?_
  rintro e w1 ⟨⟨v, rfl, va, vc, rfl, hfa⟩, hb1⟩
  obtain ⟨vn, hvn⟩ : ∃ x, x = (andF ⟨nw, l⟩ fcs0).l.length := ⟨_, rfl⟩
  obtain ⟨vb, hvb⟩ : ∃ x, x = (andF ⟨nw, l⟩ fcs0).never := ⟨_, rfl⟩
  rw [← hvn] at hfa ⊢
  rw [← hvb]
  have hr1 := HR.out.keep hb1
  have r0 := hr1.c0
  have r1 := hr1.c1
  have f0 := hr1.fr 0
  have f1 := hr1.fr 1
  have HFA := Lib.hid hfa
  have HB1 := Lib.hid (HL.out.trans (hb1.mono HL.out.size))
  have HVN := Lib.hid hvn
  have HVB := Lib.hid hvb
  clear hr1 hfa hb1 hvn hvb HC HW
  go_wp2
  refine bodyPost_ret (v := .agg #[.bool vb, .slice va vn vc]) ?_ ?_ ?_
  · simp [results, Try.results17, go_sem, r0, r1]
  · rfl
  · exact fc_pass (by omega) (by have := HSZ.out; omega) HVN.out HVB.out HFA.out HB1.out

set_option maxRecDepth 100000 in
set_option maxHeartbeats 8000000 in
theorem por_right (B : Nat) (a b : Option Addr) (c d n m : Nat) (l : List (Int × Int)) (w : World) (hm : n ≤ 9000) (hn : n = l.length) (hr : FaB B w (.slice a n c) l) :
    Calls Try.prog 17 #[.agg #[.bool false, .slice a n c], .agg #[.bool true, .slice b m d]] w (FcPost (andF ⟨false, l⟩ fcs0) w) := by
  obtain ⟨W, hW⟩ : ∃ W, W = ((w.alloc (.cells #[.bool false, .slice a n c] 30)).alloc (.cells #[.bool true, .slice b m d] 30)).alloc (.cells #[.bool false, .slice none 0 0] 30) := ⟨_, rfl⟩
  have hbr : Bx W (w.heap.size + 1 + 1) 30 #[.bool false, .slice none 0 0] := by rw [hW]; exact alloc_at (by simp)
  have hbl : Below w.heap.size w W := by rw [hW]; exact (((Below.refl _ _).alloc (Nat.le_refl _) _).alloc (by simp) _).alloc (by simp <;> omega) _
  have hsz : W.heap.size = w.heap.size + 1 + 1 + 1 := by rw [hW]; simp
  have HC := Lib.hid (pand_go B 0 a none c 0 n 0 ⟨false, l⟩ fcs0 W (by omega) hn rfl (hr.below hbl) (FaB.nil 0 W none 0))
  have HR := Lib.hid hbr
  have HL := Lib.hid hbl
  have HSZ := Lib.hid hsz
  have HW := Lib.hid hW
  clear hbr hbl hsz hW hr hn hm
  go_enter Try.func17, Try.ntmps17
  go_wp2_with fail
  rw [← HW.out]
  refine HC.out.mono ?_
  rintro e w1 ⟨⟨v, rfl, va, vc, rfl, hfa⟩, hb1⟩
  obtain ⟨vn, hvn⟩ : ∃ x, x = (andF ⟨false, l⟩ fcs0).l.length := ⟨_, rfl⟩
  obtain ⟨vb, hvb⟩ : ∃ x, x = (andF ⟨false, l⟩ fcs0).never := ⟨_, rfl⟩
  rw [← hvn] at hfa ⊢
  rw [← hvb]
  have hr1 := HR.out.keep hb1
  have r0 := hr1.c0
  have r1 := hr1.c1
  have f0 := hr1.fr 0
  have f1 := hr1.fr 1
  have HFA := Lib.hid hfa
  have HB1 := Lib.hid (HL.out.trans (hb1.mono HL.out.size))
  have HVN := Lib.hid hvn
  have HVB := Lib.hid hvb
  clear hr1 hfa hb1 hvn hvb HC HW
  go_wp2
  refine bodyPost_ret (v := .agg #[.bool vb, .slice va vn vc]) ?_ ?_ ?_
  · simp [results, Try.results17, go_sem, r0, r1]
  · rfl
  · exact fc_pass (by omega) (by have := HSZ.out; omega) HVN.out HVB.out HFA.out HB1.out

set_option maxRecDepth 100000 in
set_option maxHeartbeats 32000000 in
theorem por_some (B B' : Nat) (a b : Option Addr) (c d n m : Nat) (l k : List (Int × Int)) (w : World) (hm : n + m ≤ 9000) (hn : n = l.length) (hk : m = k.length) (hr : FaB B w (.slice a n c) l) (hs : FaB B' w (.slice b m d) k) :
    Calls Try.prog 17 #[.agg #[.bool false, .slice a n c], .agg #[.bool false, .slice b m d]] w (FcPost ⟨false, orL l k⟩ w) := by
  obtain ⟨W, hW⟩ : ∃ W, W = ((w.alloc (.cells #[.bool false, .slice a n c] 30)).alloc (.cells #[.bool false, .slice b m d] 30)).alloc (.cells #[.bool false, .slice none 0 0] 30) := ⟨_, rfl⟩
  have HBx := Lib.hid (show Bx W w.heap.size 30 #[.bool false, .slice a n c] by rw [hW]; exact alloc_past (alloc_past (alloc_at rfl) (by simp)) (by simp <;> omega))
  have HBy := Lib.hid (show Bx W (w.heap.size + 1) 30 #[.bool false, .slice b m d] by rw [hW]; exact alloc_past (alloc_at (by simp)) (by simp))
  have HR := Lib.hid (show Bx W (w.heap.size + 1 + 1) 30 #[.bool false, .slice none 0 0] by rw [hW]; exact alloc_at (by simp))
  have hbl : Below w.heap.size w W := by rw [hW]; exact (((Below.refl _ _).alloc (Nat.le_refl _) _).alloc (by simp) _).alloc (by simp <;> omega) _
  have HSZ := Lib.hid (show W.heap.size = w.heap.size + 1 + 1 + 1 by rw [hW]; simp)
  have HF := Lib.hid (hr.below hbl)
  have HG := Lib.hid (hs.below hbl)
  have HN := Lib.hid hn
  have HK := Lib.hid hk
  have HM := Lib.hid hm
  have HL := Lib.hid hbl
  have HW := Lib.hid hW
  have HEO := Lib.hid (either_orL l k)
  obtain ⟨U, hU⟩ : ∃ U, U = nrm l := ⟨_, rfl⟩
  obtain ⟨V, hV⟩ : ∃ U, U = nrm k := ⟨_, rfl⟩
  rw [← hU, ← hV] at HEO
  have HNU := Lib.hid (show Norm U by rw [hU]; exact nrm_norm l)
  have HNV := Lib.hid (show Norm V by rw [hV]; exact nrm_norm k)
  have HLU := Lib.hid (show U.length ≤ n by rw [hU, hn]; exact nrm_len l)
  have HLV := Lib.hid (show V.length ≤ m by rw [hV, hk]; exact nrm_len k)
  have HU := Lib.hid hU
  have HV := Lib.hid hV
  clear hbl hW hr hs hn hk hm hU hV
  go_enter Try.func17, Try.ntmps17
  go_upto_region 5 with fail
  rw [← HW.out]
  have BC := Lib.hid (show Below W.heap.size W W.drew from (Below.refl _ _).drew)
  (try dsimp only [List.append])
  refine wp_region_noPanic ?_
  refine wp_region_held_drew (S := (fun w' => w'.cell? ⟨w.heap.size, 1, none⟩ = some (.slice a n c) ∧ w'.cell? ⟨w.heap.size + 1, 1, none⟩ = some (.slice b m d))) (by kernel_rfl) (by (try dsimp only); exact ⟨(HBx.out.keep BC.out).c1, (HBy.out.keep BC.out).c1⟩) (fun hHeld => ?_)
  refine' tk_any 0 17 (v := _) ?hi9001 ?hd9001 (by kernel_rfl) (by kernel_rfl) (by kernel_rfl) (fun _ _ _ h => h) ?hy9001 hHeld ?hr9001
  case hi9001 => (simp only [List.getElem?_toArray, List.getElem?_cons_zero]; rfl)
  case hd9001 => rfl
  case hy9001 =>
    refine' Or.inl ⟨?hw9001, ?hx9001⟩
    case hw9001 => rfl
    case hx9001 => (intro w hSw; (try dsimp only at hSw); go_simp; (try with_reducible rfl))
  (try simp only [Act.put, List.setIfInBounds_toArray, List.set_cons_zero, List.set_cons_succ])
  refine' tk_any 1 18 (v := _) ?hi9002 ?hd9002 (by kernel_rfl) (by kernel_rfl) (by kernel_rfl) (fun _ _ _ h => h) ?hy9002 hHeld ?hr9002
  case hi9002 => (simp only [List.getElem?_toArray, List.getElem?_cons_succ, List.getElem?_cons_zero]; rfl)
  case hd9002 => rfl
  case hy9002 =>
    refine' Or.inl ⟨?hw9002, ?hx9002⟩
    case hw9002 => rfl
    case hx9002 => (intro w hSw; (try dsimp only at hSw); go_simp; (try with_reducible rfl))
  (try simp only [Act.put, List.setIfInBounds_toArray, List.set_cons_zero, List.set_cons_succ])
  refine' tk_any 4 21 (v := _) ?hi9003 ?hd9003 (by kernel_rfl) (by kernel_rfl) (by kernel_rfl) (fun _ _ _ h => h) ?hy9003 hHeld ?hr9003
  case hi9003 => (simp only [List.getElem?_toArray, List.getElem?_cons_succ, List.getElem?_cons_zero]; rfl)
  case hd9003 => rfl
  case hy9003 =>
    refine' Or.inl ⟨?hw9003, ?hx9003⟩
    case hw9003 => rfl
    case hx9003 => (intro w hSw; (try dsimp only at hSw); go_simp; (try with_reducible rfl))
  (try simp only [Act.put, List.setIfInBounds_toArray, List.set_cons_zero, List.set_cons_succ])
  refine' tk_any 5 22 (v := _) ?hi9004 ?hd9004 (by kernel_rfl) (by kernel_rfl) (by kernel_rfl) (fun _ _ _ h => h) ?hy9004 hHeld ?hr9004
  case hi9004 => (simp only [List.getElem?_toArray, List.getElem?_cons_succ, List.getElem?_cons_zero]; rfl)
  case hd9004 => rfl
  case hy9004 =>
    refine' Or.inl ⟨?hw9004, ?hx9004⟩
    case hw9004 => rfl
    case hx9004 => (intro w hSw; (try dsimp only at hSw); go_simp; (try with_reducible rfl))
  (try simp only [Act.put, List.setIfInBounds_toArray, List.set_cons_zero, List.set_cons_succ])
  refine' tk_two 2 6 ?hi9022 ?hj9022 (by kernel_rfl) ?ha9022 ?hb9022
  case hi9022 => (simp only [List.getElem?_toArray, List.getElem?_cons_succ, List.getElem?_cons_zero]; rfl)
  case hj9022 => (simp only [List.getElem?_toArray, List.getElem?_cons_succ, List.getElem?_cons_zero]; rfl)
  case ha9022 =>
    intro K hK
    go_simp
    obtain ⟨y1, hy1⟩ : ∃ wn : World, wn = (W.alloc (.cells #[.slice a n c] 28)).drew := ⟨_, rfl⟩
    rw [← hy1]
    have hb : Below W.heap.size W y1 := by rw [hy1]; exact ((Below.refl _ _).alloc (Nat.le_refl _) _).drew
    have HQa := Lib.hid (show Bx y1 W.heap.size 28 #[.slice a n c] by rw [hy1]; exact alloc_at (w := W) rfl)
    replace BC := Lib.hid hb
    clear hb hy1
    clear hHeld
    refine hK.out _ _ (by (try dsimp only); exact ⟨(HBx.out.keep BC.out).c1, (HBy.out.keep BC.out).c1⟩) (fun hHeld => ?_)
    clear hK K
    (try simp only [Act.put, List.setIfInBounds_toArray, List.set_cons_zero, List.set_cons_succ])
    refine' tk_two 3 6 ?hi9015 ?hj9015 (by kernel_rfl) ?ha9015 ?hb9015
    case hi9015 => (simp only [List.getElem?_toArray, List.getElem?_cons_succ, List.getElem?_cons_zero]; rfl)
    case hj9015 => (simp only [List.getElem?_toArray, List.getElem?_cons_succ, List.getElem?_cons_zero]; rfl)
    case ha9015 =>
      intro K hK
      go_simp
      go_at_call 45
      refine ((show Calls _ _ _ _ (SlPost U _) by rw [HU.out]; exact norm1_go _ _ _ _ _ _ _ HQa.out.lt HN.out (by have := HM.out; omega) (HF.out.below BC.out) (HQa.out.c 0))).mono ?_
      rintro e y2 ⟨⟨v, rfl, hf⟩, hb⟩
      obtain ⟨ua, uc, un, rfl, hun⟩ := SlPost.val hf
      have HFu := Lib.hid (hf.mono (B' := W.heap.size) (by have := BC.out.size; omega))
      have HNu := Lib.hid hun
      clear hf hun
      replace HQa := Lib.hid (HQa.out.keep hb)
      replace BC := Lib.hid (BC.out.trans (hb.mono BC.out.size))
      clear hb
      go_wp2_with fail
      clear hHeld
      refine hK.out _ _ (by (try dsimp only); exact ⟨(HBx.out.keep BC.out).c1, (HBy.out.keep BC.out).c1⟩) (fun hHeld => ?_)
      clear hK K
      (try simp only [Act.put, List.setIfInBounds_toArray, List.set_cons_zero, List.set_cons_succ])
      refine' tk_call 6 ?hi9005 (by kernel_rfl) ?hr9005
      case hi9005 => (simp only [List.getElem?_toArray, List.getElem?_cons_succ, List.getElem?_cons_zero]; rfl)
      intro K hK
      go_simp
      obtain ⟨y3, hy3⟩ : ∃ wn : World, wn = (y2.alloc (.cells #[.slice b m d] 28)) := ⟨_, rfl⟩
      rw [← hy3]
      have hb : Below y2.heap.size y2 y3 := by rw [hy3]; exact ((Below.refl _ _).alloc (Nat.le_refl _) _)
      have HQb := Lib.hid (show Bx y3 y2.heap.size 28 #[.slice b m d] by rw [hy3]; exact alloc_at (w := y2) rfl)
      replace HFu := Lib.hid (HFu.out.below hb)
      replace HQa := Lib.hid (HQa.out.keep hb)
      replace BC := Lib.hid (BC.out.trans (hb.mono BC.out.size))
      clear hb hy3
      clear hHeld
      refine hK.out _ _ (by (try dsimp only); exact ⟨(HBx.out.keep BC.out).c1, (HBy.out.keep BC.out).c1⟩) (fun hHeld => ?_)
      clear hK K
      (try simp only [Act.put, List.setIfInBounds_toArray, List.set_cons_zero, List.set_cons_succ])
      refine' tk_call 7 ?hi9006 (by kernel_rfl) ?hr9006
      case hi9006 => (simp only [List.getElem?_toArray, List.getElem?_cons_succ, List.getElem?_cons_zero]; rfl)
      intro K hK
      go_simp
      go_at_call 45
      refine ((show Calls _ _ _ _ (SlPost V _) by rw [HV.out]; exact norm1_go _ _ _ _ _ _ _ HQb.out.lt HK.out (by have := HM.out; omega) (HG.out.below BC.out) (HQb.out.c 0))).mono ?_
      rintro e y4 ⟨⟨v, rfl, hf⟩, hb⟩
      obtain ⟨va, vc, vn, rfl, hvn⟩ := SlPost.val hf
      have HFv := Lib.hid (hf.mono (B' := W.heap.size) (by have := BC.out.size; omega))
      have HNv := Lib.hid hvn
      clear hf hvn
      replace HFu := Lib.hid (HFu.out.below hb)
      replace HQa := Lib.hid (HQa.out.keep hb)
      replace HQb := Lib.hid (HQb.out.keep hb)
      replace BC := Lib.hid (BC.out.trans (hb.mono BC.out.size))
      clear hb
      go_wp2_with fail
      clear hHeld
      refine hK.out _ _ (by (try dsimp only); exact ⟨(HBx.out.keep BC.out).c1, (HBy.out.keep BC.out).c1⟩) (fun hHeld => ?_)
      clear hK K
      (try simp only [Act.put, List.setIfInBounds_toArray, List.set_cons_zero, List.set_cons_succ])
      refine' tk_call 8 ?hi9007 (by kernel_rfl) ?hr9007
      case hi9007 => (simp only [List.getElem?_toArray, List.getElem?_cons_succ, List.getElem?_cons_zero]; rfl)
      intro K hK
      go_simp
      go_at_call 48
      refine (either_go _ _ _ _ _ _ _ _ U V _ HNu.out HNv.out (by have := HLU.out; have := HLV.out; have := HNu.out; have := HNv.out; have := HM.out; omega) HNU.out HNV.out HFu.out HFv.out).mono ?_
      rintro e y5 ⟨⟨v, rfl, hf⟩, hb⟩
      obtain ⟨ea, ec, en, rfl, hen⟩ := SlPost.val hf
      have HFe := Lib.hid (show FaB W.heap.size y5 (.slice ea en ec) (orL l k) by have h := hf.mono (B' := W.heap.size) (by have := BC.out.size; omega); rw [HEO.out] at h; exact h)
      have HNe := Lib.hid (show en = (orL l k).length by rw [hen, HEO.out])
      clear hf hen
      replace HFu := Lib.hid (HFu.out.below hb)
      replace HFv := Lib.hid (HFv.out.below hb)
      replace HQa := Lib.hid (HQa.out.keep hb)
      replace HQb := Lib.hid (HQb.out.keep hb)
      replace BC := Lib.hid (BC.out.trans (hb.mono BC.out.size))
      clear hb
      go_wp2_with fail
      clear hHeld
      refine hK.out _ _ (by (try dsimp only); exact ⟨(HBx.out.keep BC.out).c1, (HBy.out.keep BC.out).c1⟩) (fun hHeld => ?_)
      clear hK K
      (try simp only [Act.put, List.setIfInBounds_toArray, List.set_cons_zero, List.set_cons_succ])
      refine' tk_any 9 26 (v := _) ?hi9008 ?hd9008 (by kernel_rfl) (by kernel_rfl) (by kernel_rfl) (fun _ _ _ h => h) ?hy9008 hHeld ?hr9008
      case hi9008 => (simp only [List.getElem?_toArray, List.getElem?_cons_succ, List.getElem?_cons_zero]; rfl)
      case hd9008 => rfl
      case hy9008 =>
        refine' Or.inl ⟨?hw9008, ?hx9008⟩
        case hw9008 => rfl
        case hx9008 => (intro w hSw; (try dsimp only at hSw); go_simp; (try with_reducible rfl))
      (try simp only [Act.put, List.setIfInBounds_toArray, List.set_cons_zero, List.set_cons_succ])
      have hr := HR.out.keep BC.out
      have r0 := hr.c0
      have r1 := hr.c1
      have f0 := hr.fr 0
      have f1 := hr.fr 1
      clear hr
      refine' tk_call 10 ?hi9009 (by kernel_rfl) ?hr9009
      case hi9009 => (simp only [List.getElem?_toArray, List.getElem?_cons_succ, List.getElem?_cons_zero]; rfl)
      intro K hK
      go_simp
      clear hHeld
      refine hK.out _ _ (by (try dsimp only); exact ⟨set_blk (by omega) (set_blk (by omega) (HBx.out.keep BC.out).c1), set_blk (by omega) (set_blk (by omega) (HBy.out.keep BC.out).c1)⟩) (fun hHeld => ?_)
      clear hK K
      (try simp only [Act.put, List.setIfInBounds_toArray, List.set_cons_zero, List.set_cons_succ])
      refine wpAnyH_done (by kernel_rfl) ?_ _
      refine NoPanic.normal ?_
      go_wp2
      refine bodyPost_ret (v := .agg #[.bool false, .slice ea en ec]) ?_ ?_ ?_
      · simp [results, Try.results17, go_sem, r0, r1]
      · rfl
      · exact fc_pass (B := W.heap.size) (F := ⟨false, orL l k⟩) (by omega) (by have := HSZ.out; omega) HNe.out rfl HFe.out (HL.out.trans (BC.out.mono HL.out.size))
    case hb9015 =>
      intro K hK
      go_simp
      obtain ⟨y6, hy6⟩ : ∃ wn : World, wn = (y1.alloc (.cells #[.slice b m d] 28)) := ⟨_, rfl⟩
      rw [← hy6]
      have hb : Below y1.heap.size y1 y6 := by rw [hy6]; exact ((Below.refl _ _).alloc (Nat.le_refl _) _)
      have HQb := Lib.hid (show Bx y6 y1.heap.size 28 #[.slice b m d] by rw [hy6]; exact alloc_at (w := y1) rfl)
      replace HQa := Lib.hid (HQa.out.keep hb)
      replace BC := Lib.hid (BC.out.trans (hb.mono BC.out.size))
      clear hb hy6
      clear hHeld
      refine hK.out _ _ (by (try dsimp only); exact ⟨(HBx.out.keep BC.out).c1, (HBy.out.keep BC.out).c1⟩) (fun hHeld => ?_)
      clear hK K
      (try simp only [Act.put, List.setIfInBounds_toArray, List.set_cons_zero, List.set_cons_succ])
      refine' tk_call 3 ?hi9010 (by kernel_rfl) ?hr9010
      case hi9010 => (simp only [List.getElem?_toArray, List.getElem?_cons_succ, List.getElem?_cons_zero]; rfl)
      intro K hK
      go_simp
      go_at_call 45
      refine ((show Calls _ _ _ _ (SlPost U _) by rw [HU.out]; exact norm1_go _ _ _ _ _ _ _ HQa.out.lt HN.out (by have := HM.out; omega) (HF.out.below BC.out) (HQa.out.c 0))).mono ?_
      rintro e y7 ⟨⟨v, rfl, hf⟩, hb⟩
      obtain ⟨ua, uc, un, rfl, hun⟩ := SlPost.val hf
      have HFu := Lib.hid (hf.mono (B' := W.heap.size) (by have := BC.out.size; omega))
      have HNu := Lib.hid hun
      clear hf hun
      replace HQa := Lib.hid (HQa.out.keep hb)
      replace HQb := Lib.hid (HQb.out.keep hb)
      replace BC := Lib.hid (BC.out.trans (hb.mono BC.out.size))
      clear hb
      go_wp2_with fail
      clear hHeld
      refine hK.out _ _ (by (try dsimp only); exact ⟨(HBx.out.keep BC.out).c1, (HBy.out.keep BC.out).c1⟩) (fun hHeld => ?_)
      clear hK K
      (try simp only [Act.put, List.setIfInBounds_toArray, List.set_cons_zero, List.set_cons_succ])
      refine' tk_call 7 ?hi9011 (by kernel_rfl) ?hr9011
      case hi9011 => (simp only [List.getElem?_toArray, List.getElem?_cons_succ, List.getElem?_cons_zero]; rfl)
      intro K hK
      go_simp
      go_at_call 45
      refine ((show Calls _ _ _ _ (SlPost V _) by rw [HV.out]; exact norm1_go _ _ _ _ _ _ _ HQb.out.lt HK.out (by have := HM.out; omega) (HG.out.below BC.out) (HQb.out.c 0))).mono ?_
      rintro e y8 ⟨⟨v, rfl, hf⟩, hb⟩
      obtain ⟨va, vc, vn, rfl, hvn⟩ := SlPost.val hf
      have HFv := Lib.hid (hf.mono (B' := W.heap.size) (by have := BC.out.size; omega))
      have HNv := Lib.hid hvn
      clear hf hvn
      replace HFu := Lib.hid (HFu.out.below hb)
      replace HQa := Lib.hid (HQa.out.keep hb)
      replace HQb := Lib.hid (HQb.out.keep hb)
      replace BC := Lib.hid (BC.out.trans (hb.mono BC.out.size))
      clear hb
      go_wp2_with fail
      clear hHeld
      refine hK.out _ _ (by (try dsimp only); exact ⟨(HBx.out.keep BC.out).c1, (HBy.out.keep BC.out).c1⟩) (fun hHeld => ?_)
      clear hK K
      (try simp only [Act.put, List.setIfInBounds_toArray, List.set_cons_zero, List.set_cons_succ])
      refine' tk_call 8 ?hi9012 (by kernel_rfl) ?hr9012
      case hi9012 => (simp only [List.getElem?_toArray, List.getElem?_cons_succ, List.getElem?_cons_zero]; rfl)
      intro K hK
      go_simp
      go_at_call 48
      refine (either_go _ _ _ _ _ _ _ _ U V _ HNu.out HNv.out (by have := HLU.out; have := HLV.out; have := HNu.out; have := HNv.out; have := HM.out; omega) HNU.out HNV.out HFu.out HFv.out).mono ?_
      rintro e y9 ⟨⟨v, rfl, hf⟩, hb⟩
      obtain ⟨ea, ec, en, rfl, hen⟩ := SlPost.val hf
      have HFe := Lib.hid (show FaB W.heap.size y9 (.slice ea en ec) (orL l k) by have h := hf.mono (B' := W.heap.size) (by have := BC.out.size; omega); rw [HEO.out] at h; exact h)
      have HNe := Lib.hid (show en = (orL l k).length by rw [hen, HEO.out])
      clear hf hen
      replace HFu := Lib.hid (HFu.out.below hb)
      replace HFv := Lib.hid (HFv.out.below hb)
      replace HQa := Lib.hid (HQa.out.keep hb)
      replace HQb := Lib.hid (HQb.out.keep hb)
      replace BC := Lib.hid (BC.out.trans (hb.mono BC.out.size))
      clear hb
      go_wp2_with fail
      clear hHeld
      refine hK.out _ _ (by (try dsimp only); exact ⟨(HBx.out.keep BC.out).c1, (HBy.out.keep BC.out).c1⟩) (fun hHeld => ?_)
      clear hK K
      (try simp only [Act.put, List.setIfInBounds_toArray, List.set_cons_zero, List.set_cons_succ])
      refine' tk_any 9 26 (v := _) ?hi9013 ?hd9013 (by kernel_rfl) (by kernel_rfl) (by kernel_rfl) (fun _ _ _ h => h) ?hy9013 hHeld ?hr9013
      case hi9013 => (simp only [List.getElem?_toArray, List.getElem?_cons_succ, List.getElem?_cons_zero]; rfl)
      case hd9013 => rfl
      case hy9013 =>
        refine' Or.inl ⟨?hw9013, ?hx9013⟩
        case hw9013 => rfl
        case hx9013 => (intro w hSw; (try dsimp only at hSw); go_simp; (try with_reducible rfl))
      (try simp only [Act.put, List.setIfInBounds_toArray, List.set_cons_zero, List.set_cons_succ])
      have hr := HR.out.keep BC.out
      have r0 := hr.c0
      have r1 := hr.c1
      have f0 := hr.fr 0
      have f1 := hr.fr 1
      clear hr
      refine' tk_call 10 ?hi9014 (by kernel_rfl) ?hr9014
      case hi9014 => (simp only [List.getElem?_toArray, List.getElem?_cons_succ, List.getElem?_cons_zero]; rfl)
      intro K hK
      go_simp
      clear hHeld
      refine hK.out _ _ (by (try dsimp only); exact ⟨set_blk (by omega) (set_blk (by omega) (HBx.out.keep BC.out).c1), set_blk (by omega) (set_blk (by omega) (HBy.out.keep BC.out).c1)⟩) (fun hHeld => ?_)
      clear hK K
      (try simp only [Act.put, List.setIfInBounds_toArray, List.set_cons_zero, List.set_cons_succ])
      refine wpAnyH_done (by kernel_rfl) ?_ _
      refine NoPanic.normal ?_
      go_wp2
      refine bodyPost_ret (v := .agg #[.bool false, .slice ea en ec]) ?_ ?_ ?_
      · simp [results, Try.results17, go_sem, r0, r1]
      · rfl
      · exact fc_pass (B := W.heap.size) (F := ⟨false, orL l k⟩) (by omega) (by have := HSZ.out; omega) HNe.out rfl HFe.out (HL.out.trans (BC.out.mono HL.out.size))
  case hb9022 =>
    intro K hK
    go_simp
    obtain ⟨y10, hy10⟩ : ∃ wn : World, wn = (W.alloc (.cells #[.slice b m d] 28)).drew := ⟨_, rfl⟩
    rw [← hy10]
    have hb : Below W.heap.size W y10 := by rw [hy10]; exact ((Below.refl _ _).alloc (Nat.le_refl _) _).drew
    have HQb := Lib.hid (show Bx y10 W.heap.size 28 #[.slice b m d] by rw [hy10]; exact alloc_at (w := W) rfl)
    replace BC := Lib.hid hb
    clear hb hy10
    clear hHeld
    refine hK.out _ _ (by (try dsimp only); exact ⟨(HBx.out.keep BC.out).c1, (HBy.out.keep BC.out).c1⟩) (fun hHeld => ?_)
    clear hK K
    (try simp only [Act.put, List.setIfInBounds_toArray, List.set_cons_zero, List.set_cons_succ])
    refine' tk_call 2 ?hi9016 (by kernel_rfl) ?hr9016
    case hi9016 => (simp only [List.getElem?_toArray, List.getElem?_cons_succ, List.getElem?_cons_zero]; rfl)
    intro K hK
    go_simp
    obtain ⟨y11, hy11⟩ : ∃ wn : World, wn = (y10.alloc (.cells #[.slice a n c] 28)) := ⟨_, rfl⟩
    rw [← hy11]
    have hb : Below y10.heap.size y10 y11 := by rw [hy11]; exact ((Below.refl _ _).alloc (Nat.le_refl _) _)
    have HQa := Lib.hid (show Bx y11 y10.heap.size 28 #[.slice a n c] by rw [hy11]; exact alloc_at (w := y10) rfl)
    replace HQb := Lib.hid (HQb.out.keep hb)
    replace BC := Lib.hid (BC.out.trans (hb.mono BC.out.size))
    clear hb hy11
    clear hHeld
    refine hK.out _ _ (by (try dsimp only); exact ⟨(HBx.out.keep BC.out).c1, (HBy.out.keep BC.out).c1⟩) (fun hHeld => ?_)
    clear hK K
    (try simp only [Act.put, List.setIfInBounds_toArray, List.set_cons_zero, List.set_cons_succ])
    refine' tk_call 3 ?hi9017 (by kernel_rfl) ?hr9017
    case hi9017 => (simp only [List.getElem?_toArray, List.getElem?_cons_succ, List.getElem?_cons_zero]; rfl)
    intro K hK
    go_simp
    go_at_call 45
    refine ((show Calls _ _ _ _ (SlPost U _) by rw [HU.out]; exact norm1_go _ _ _ _ _ _ _ HQa.out.lt HN.out (by have := HM.out; omega) (HF.out.below BC.out) (HQa.out.c 0))).mono ?_
    rintro e y12 ⟨⟨v, rfl, hf⟩, hb⟩
    obtain ⟨ua, uc, un, rfl, hun⟩ := SlPost.val hf
    have HFu := Lib.hid (hf.mono (B' := W.heap.size) (by have := BC.out.size; omega))
    have HNu := Lib.hid hun
    clear hf hun
    replace HQb := Lib.hid (HQb.out.keep hb)
    replace HQa := Lib.hid (HQa.out.keep hb)
    replace BC := Lib.hid (BC.out.trans (hb.mono BC.out.size))
    clear hb
    go_wp2_with fail
    clear hHeld
    refine hK.out _ _ (by (try dsimp only); exact ⟨(HBx.out.keep BC.out).c1, (HBy.out.keep BC.out).c1⟩) (fun hHeld => ?_)
    clear hK K
    (try simp only [Act.put, List.setIfInBounds_toArray, List.set_cons_zero, List.set_cons_succ])
    refine' tk_call 7 ?hi9018 (by kernel_rfl) ?hr9018
    case hi9018 => (simp only [List.getElem?_toArray, List.getElem?_cons_succ, List.getElem?_cons_zero]; rfl)
    intro K hK
    go_simp
    go_at_call 45
    refine ((show Calls _ _ _ _ (SlPost V _) by rw [HV.out]; exact norm1_go _ _ _ _ _ _ _ HQb.out.lt HK.out (by have := HM.out; omega) (HG.out.below BC.out) (HQb.out.c 0))).mono ?_
    rintro e y13 ⟨⟨v, rfl, hf⟩, hb⟩
    obtain ⟨va, vc, vn, rfl, hvn⟩ := SlPost.val hf
    have HFv := Lib.hid (hf.mono (B' := W.heap.size) (by have := BC.out.size; omega))
    have HNv := Lib.hid hvn
    clear hf hvn
    replace HFu := Lib.hid (HFu.out.below hb)
    replace HQb := Lib.hid (HQb.out.keep hb)
    replace HQa := Lib.hid (HQa.out.keep hb)
    replace BC := Lib.hid (BC.out.trans (hb.mono BC.out.size))
    clear hb
    go_wp2_with fail
    clear hHeld
    refine hK.out _ _ (by (try dsimp only); exact ⟨(HBx.out.keep BC.out).c1, (HBy.out.keep BC.out).c1⟩) (fun hHeld => ?_)
    clear hK K
    (try simp only [Act.put, List.setIfInBounds_toArray, List.set_cons_zero, List.set_cons_succ])
    refine' tk_call 8 ?hi9019 (by kernel_rfl) ?hr9019
    case hi9019 => (simp only [List.getElem?_toArray, List.getElem?_cons_succ, List.getElem?_cons_zero]; rfl)
    intro K hK
    go_simp
    go_at_call 48
    refine (either_go _ _ _ _ _ _ _ _ U V _ HNu.out HNv.out (by have := HLU.out; have := HLV.out; have := HNu.out; have := HNv.out; have := HM.out; omega) HNU.out HNV.out HFu.out HFv.out).mono ?_
    rintro e y14 ⟨⟨v, rfl, hf⟩, hb⟩
    obtain ⟨ea, ec, en, rfl, hen⟩ := SlPost.val hf
    have HFe := Lib.hid (show FaB W.heap.size y14 (.slice ea en ec) (orL l k) by have h := hf.mono (B' := W.heap.size) (by have := BC.out.size; omega); rw [HEO.out] at h; exact h)
    have HNe := Lib.hid (show en = (orL l k).length by rw [hen, HEO.out])
    clear hf hen
    replace HFu := Lib.hid (HFu.out.below hb)
    replace HFv := Lib.hid (HFv.out.below hb)
    replace HQb := Lib.hid (HQb.out.keep hb)
    replace HQa := Lib.hid (HQa.out.keep hb)
    replace BC := Lib.hid (BC.out.trans (hb.mono BC.out.size))
    clear hb
    go_wp2_with fail
    clear hHeld
    refine hK.out _ _ (by (try dsimp only); exact ⟨(HBx.out.keep BC.out).c1, (HBy.out.keep BC.out).c1⟩) (fun hHeld => ?_)
    clear hK K
    (try simp only [Act.put, List.setIfInBounds_toArray, List.set_cons_zero, List.set_cons_succ])
    refine' tk_any 9 26 (v := _) ?hi9020 ?hd9020 (by kernel_rfl) (by kernel_rfl) (by kernel_rfl) (fun _ _ _ h => h) ?hy9020 hHeld ?hr9020
    case hi9020 => (simp only [List.getElem?_toArray, List.getElem?_cons_succ, List.getElem?_cons_zero]; rfl)
    case hd9020 => rfl
    case hy9020 =>
      refine' Or.inl ⟨?hw9020, ?hx9020⟩
      case hw9020 => rfl
      case hx9020 => (intro w hSw; (try dsimp only at hSw); go_simp; (try with_reducible rfl))
    (try simp only [Act.put, List.setIfInBounds_toArray, List.set_cons_zero, List.set_cons_succ])
    have hr := HR.out.keep BC.out
    have r0 := hr.c0
    have r1 := hr.c1
    have f0 := hr.fr 0
    have f1 := hr.fr 1
    clear hr
    refine' tk_call 10 ?hi9021 (by kernel_rfl) ?hr9021
    case hi9021 => (simp only [List.getElem?_toArray, List.getElem?_cons_succ, List.getElem?_cons_zero]; rfl)
    intro K hK
    go_simp
    clear hHeld
    refine hK.out _ _ (by (try dsimp only); exact ⟨set_blk (by omega) (set_blk (by omega) (HBx.out.keep BC.out).c1), set_blk (by omega) (set_blk (by omega) (HBy.out.keep BC.out).c1)⟩) (fun hHeld => ?_)
    clear hK K
    (try simp only [Act.put, List.setIfInBounds_toArray, List.set_cons_zero, List.set_cons_succ])
    refine wpAnyH_done (by kernel_rfl) ?_ _
    refine NoPanic.normal ?_
    go_wp2
    refine bodyPost_ret (v := .agg #[.bool false, .slice ea en ec]) ?_ ?_ ?_
    · simp [results, Try.results17, go_sem, r0, r1]
    · rfl
    · exact fc_pass (B := W.heap.size) (F := ⟨false, orL l k⟩) (by omega) (by have := HSZ.out; omega) HNe.out rfl HFe.out (HL.out.trans (BC.out.mono HL.out.size))

theorem por_go (B B' : Nat) (a b : Option Addr) (c d n m : Nat) (F G : Fcs) (w : World) (hm : n + m ≤ 9000) (hn : n = F.l.length) (hk : m = G.l.length) (hr : FaB B w (.slice a n c) F.l) (hs : FaB B' w (.slice b m d) G.l) :
    Calls Try.prog 17 #[.agg #[.bool F.never, .slice a n c], .agg #[.bool G.never, .slice b m d]] w (FcPost (orF F G) w) := by
  unfold orF
  cases h : F.never with
  | true => rw [if_pos rfl]; exact por_left B' a b c d n m G.never G.l w (by omega) hk hs
  | false =>
    rw [if_neg (by simp)]
    cases h2 : G.never with
    | true =>
      rw [if_pos rfl]
      have e : F = ⟨false, F.l⟩ := by rw [← h]
      have := por_right B a b c d n m F.l w (by omega) hn hr
      rw [← e] at this
      exact this
    | false => rw [if_neg (by simp)]; exact por_some B B' a b c d n m F.l G.l w (by omega) hn hk hr hs
end Go.Proofs.Ytgjkobkcmgliaaa
