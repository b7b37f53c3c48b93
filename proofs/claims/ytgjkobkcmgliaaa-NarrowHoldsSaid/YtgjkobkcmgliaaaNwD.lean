import Derived.Test.YtgjkobkcmgliaaaNwC
namespace Go.Proofs.Ytgjkobkcmgliaaa
open Go.RowKit

/-- the facts of these variables, but for those that state nothing -/
def selF (c : Int → Bool) (g : Int → Nat) (v : Int) : Option (Int × Int) := if c v && !decide (g v = 255) then some (v, (g v : Int)) else none
theorem sel_mem {c : Int → Bool} {g : Int → Nat} {o : List Int} {f : Int × Int} (h : f ∈ o.filterMap (selF c g)) : f.1 ∈ o ∧ c f.1 = true ∧ f.2 = (g f.1 : Int) ∧ g f.1 ≠ 255 := by
  obtain ⟨v, hv, e⟩ := List.mem_filterMap.1 h
  unfold selF at e
  split at e
  · rename_i hc
    rw [Bool.and_eq_true] at hc
    cases e
    exact ⟨hv, hc.1, rfl, by simpa using hc.2⟩
  · cases e
theorem sel_rising {c : Int → Bool} {g : Int → Nat} {o : List Int} (h : o.Pairwise (· < ·)) : Rising (o.filterMap (selF c g)) := by
  refine List.Pairwise.filterMap _ (fun a a' hlt b hb b' hb' => ?_) h
  unfold selF at hb hb'
  split at hb <;> split at hb' <;> first | cases hb | skip
  all_goals first | (cases hb'; exact hlt) | cases hb'
theorem sel_norm {c : Int → Bool} {g : Int → Nat} {o : List Int} (h : o.Pairwise (· < ·)) (hg : ∀ v, g v < 256) : Norm (o.filterMap (selF c g)) :=
  ⟨sel_rising h, fun f hf => by obtain ⟨_, _, e, hne⟩ := sel_mem hf; have := hg f.1; rw [e]; omega⟩
theorem lk_sel {c : Int → Bool} {g : Int → Nat} (hg : ∀ v, g v < 256) : ∀ {o : List Int}, o.Pairwise (· < ·) → ∀ v, lk (o.filterMap (selF c g)) v = if v ∈ o ∧ c v = true then g v else 255
  | [], _, v => by simp [lk_nil]
  | x :: r, h, v => by
    have ih := lk_sel hg (c := c) h.of_cons v
    have hx := (List.pairwise_cons.1 h).1
    rw [List.filterMap_cons]
    by_cases hv : v = x
    · subst hv
      have hnr : v ∉ r := fun hr => by have := hx v hr; omega
      rw [if_neg (fun h => hnr h.1)] at ih
      cases hc : c v with
      | false => simp only [selF, hc, Bool.false_and]; simp [ih]
      | true =>
        by_cases he : g v = 255
        · simp only [selF, hc, he]; simp [ih]
        · have e : selF c g v = some (v, (g v : Int)) := by simp [selF, hc, he]
          rw [e]
          simp only
          rw [lk_cons, if_pos rfl, ih, Nat.and_comm, nand255 (lowN_lt _), lowN_nat (hg v), if_pos (by simp)]
    · have e : (v ∈ x :: r ∧ c v = true) ↔ (v ∈ r ∧ c v = true) := by simp [List.mem_cons, hv]
      cases hs : selF c g x with
      | none => simp only [ih, e]
      | some f =>
        have hf : f.1 = x := by
          unfold selF at hs
          split at hs
          · cases hs; rfl
          · cases hs
        simp only
        rw [lk_cons, if_neg (by rw [hf]; exact fun e => hv e.symm), ih]
        simp only [e]
theorem sel_take {c : Int → Bool} {g : Int → Nat} (o : List Int) (i : Nat) (h : i < o.length) : (o.take (i + 1)).filterMap (selF c g) = (o.take i).filterMap (selF c g) ++ (selF c g (o.getD i 0)).toList := by
  rw [List.take_succ_eq_append_getElem h, List.filterMap_append]
  have e : o.getD i 0 = o[i] := by simp [List.getD_eq_getElem?_getD, h]
  rw [e]
  cases hs : selF c g o[i] <;> simp [hs]
theorem sel_len {c : Int → Bool} {g : Int → Nat} (o : List Int) : (o.filterMap (selF c g)).length ≤ o.length := List.length_filterMap_le ..
def gAnd (l k : List (Int × Int)) (v : Int) : Nat := lk l v &&& lk k v
def gOr (l k : List (Int × Int)) (v : Int) : Nat := lk l v ||| lk k v
def cOr (l k : List (Int × Int)) (v : Int) : Bool := hasV l v && hasV k v
theorem gAnd_lt (l k : List (Int × Int)) (v : Int) : gAnd l k v < 256 := nand_lt _ (lk_lt _ _)
theorem gOr_lt (l k : List (Int × Int)) (v : Int) : gOr l k v < 256 := nor_lt (lk_lt _ _) (lk_lt _ _)
theorem sel_and {o : List Int} {l k : List (Int × Int)} (h : Vars o (l ++ k)) : o.filterMap (selF (fun _ => true) (gAnd l k)) = nrm (l ++ k) := by
  refine nrm_of (sel_norm h.1 (gAnd_lt l k)) fun v => ?_
  rw [lk_sel (gAnd_lt l k) h.1, lk_app]
  split
  · rfl
  · rename_i hv
    rw [← lk_app, lk_none fun f hf e => hv ⟨(h.2 v).2 ⟨f, hf, e⟩, rfl⟩]
theorem sel_or {o : List Int} {l k : List (Int × Int)} (h : Vars o (l ++ k)) : o.filterMap (selF (cOr l k) (gOr l k)) = orL l k := by
  refine orL_of (sel_norm h.1 (gOr_lt l k)) fun v => ?_
  rw [lk_sel (gOr_lt l k) h.1]
  split
  · rfl
  · rename_i hv
    by_cases h1 : ∃ f ∈ l, f.1 = v
    · by_cases h2 : ∃ f ∈ k, f.1 = v
      · refine absurd ⟨(h.2 v).2 ?_, ?_⟩ hv
        · obtain ⟨f, hf, e⟩ := h1; exact ⟨f, List.mem_append_left _ hf, e⟩
        · unfold cOr; rw [(hasV_iff l v).2 h1, (hasV_iff k v).2 h2]; rfl
      · rw [lk_none (l := k) fun f hf e => h2 ⟨f, hf, e⟩, Nat.or_comm, nor255 (lk_lt _ _)]
    · rw [lk_none (l := l) fun f hf e => h1 ⟨f, hf, e⟩, nor255 (lk_lt _ _)]
/-- the row that is being built -/
def SelRel (c : Int → Bool) (g : Int → Nat) (N rb : Nat) (o : List Int) (w0 : World) (iv : Value) (wr : World) : Prop :=
  ∃ (i : Nat) (a : Option Addr) (n cp : Nat), i ≤ N ∧ iv = .int .i64 i ∧ n ≤ i ∧ Hid (n = ((o.take i).filterMap (selF c g)).length) ∧ Hid (Bx wr rb 36 #[.bool false, .slice a n cp]) ∧
    Hid (wr.ownsRow w0.heap.size 76 2 (.slice a n cp) n (fasCells ((o.take i).filterMap (selF c g)))) ∧ Hid (But rb w0 wr)
/-- facts handed back -/
def FcPost (F : Fcs) (w : World) (e : Ending) (w' : World) : Prop := (∃ v, e = .returned v ∧ FcB w.heap.size w' v F) ∧ Below w.heap.size w w'
/-- the end of a round: a fact more -/
theorem sel_end {c : Int → Bool} {g : Int → Nat} {N rb i rn gg cap' : Nat} {o : List Int} {w0 w9 : World} {iv rv : Value} {x : Int} (hi : i < N) (hN : N = o.length) (hrn : rn ≤ i) (hx : o.getD i 0 = x) (hlen : rn = ((o.take i).filterMap (selF c g)).length)
    (hs : selF c g x = some (x, (g x : Int))) (h9 : But rb w0 w9) (hbb : Bx w9 rb 36 #[.bool false, rv])
    (ho : w9.ownsRow w0.heap.size 76 2 (.slice (some ⟨gg, 0, none⟩) (rn + 1) cap') (rn + 1) (fasCells ((o.take i).filterMap (selF c g)) ++ [.int .i64 x, .int .i64 (g x : Int)])) (hgr : gg ≠ rb) (hiv : iv = .int .i64 ((i + 1 : Nat) : Int)) :
    SelRel c g N rb o w0 iv (w9.setCell ⟨rb, 1, none⟩ (.slice (some ⟨gg, 0, none⟩) (rn + 1) cap')) ∧ N - (intOf iv).toNat < N - i := by
  have e : (o.take (i + 1)).filterMap (selF c g) = (o.take i).filterMap (selF c g) ++ [(x, (g x : Int))] := by
    rw [sel_take o i (by omega), hx, hs]; rfl
  refine ⟨⟨i + 1, some ⟨gg, 0, none⟩, rn + 1, cap', hi, hiv, by omega, Lib.hid (by rw [e, List.length_append, ← hlen]; rfl), Lib.hid ?_, Lib.hid ?_, Lib.hid ?_⟩, by rw [hiv]; simp [intOf]; omega⟩
  · exact hbb.set 1 _
  · rw [e, fasCells_snoc]
    exact own_block ho fun g' hg' => by cases hg'; exact Below.heap_setCell _ _ _ _ (by exact hgr)
  · exact h9.set 1 _
theorem app_box {rb B : Nat} {wq wA w9 : World} {v : Value} {T : TypeId} {cs : Array Value} (hb : Bx wq rb T cs) (hA : Below wq.heap.size wq wA) (hg : wA.grownBy w9 v.ownBlock) (hv : ∀ g, v.ownBlock = some g → B ≤ g) (hr : rb < B) : Bx w9 rb T cs := by
  have h1 := hb.keep hA
  exact (hg.block rb h1.lt fun e => by have := hv rb e.symm; omega).trans h1
theorem app_ne {rb B gg : Nat} {wq wA : World} {v : Value} (hA : Below wq.heap.size wq wA) (hat : v.ownBlock = some gg ∨ gg = wA.heap.size) (hv : ∀ g, v.ownBlock = some g → B ≤ g) (hr : rb < B) (hq : B ≤ wq.heap.size) : gg ≠ rb := by
  have := hA.size
  rcases hat with h | h
  · have := hv gg h; omega
  · omega
theorem set_blk {w : World} {r i b o : Nat} {x v : Value} (hb : b ≠ r) (h : w.cell? ⟨b, o, none⟩ = some v) : (w.setCell ⟨r, i, none⟩ x).cell? ⟨b, o, none⟩ = some v := by
  rw [← h]; exact World.cell?_of_block (Below.heap_setCell _ _ _ _ hb)
/-- the whole row -/
theorem sel_done {c : Int → Bool} {g : Int → Nat} {N i rn rc B e : Nat} {ra : Option Addr} {o : List Int} {wr : World} {R : List (Int × Int)} (hi : i = N) (hN : N = o.length) (hlen : rn = ((o.take i).filterMap (selF c g)).length) (ho : wr.ownsRow B e 2 (.slice ra rn rc) rn (fasCells ((o.take i).filterMap (selF c g)))) (hR : o.filterMap (selF c g) = R) :
    rn = R.length ∧ wr.ownsRow B e 2 (.slice ra rn rc) R.length (fasCells R) := by
  rw [hi, hN, List.take_length, hR] at hlen ho
  exact ⟨hlen, by rw [← hlen]; exact ho⟩
/-- what is handed back -/
theorem fc_done {w wr : World} {r B e rn rc : Nat} {ra : Option Addr} {R : List (Int × Int)} {nv : Bool} {x y : Value} (h : rn = R.length ∧ wr.ownsRow B e 2 (.slice ra rn rc) R.length (fasCells R)) (hb : Below w.heap.size w wr) (hr : w.heap.size ≤ r) (hrB : r < B) (hm : R.length ≤ maxLen) :
    FcPost ⟨nv, R⟩ w (.returned (.agg #[.bool nv, .slice ra rn rc])) ((wr.setCell ⟨r, 0, none⟩ x).setCell ⟨r, 1, none⟩ y) := by
  obtain ⟨rfl, ho⟩ := h
  exact ⟨⟨_, rfl, ra, rc, rfl, (((FaB.of_own ho hm).set (p := ⟨r, 0, none⟩) hrB _).set (p := ⟨r, 1, none⟩) hrB _).mono (by show w.heap.size ≤ B; omega)⟩, (hb.setCell (p := ⟨r, 0, none⟩) hr _).setCell (p := ⟨r, 1, none⟩) hr _⟩
theorem sel_skip {c : Int → Bool} {g : Int → Nat} {N rb i rn rc : Nat} {ra : Option Addr} {o : List Int} {w0 wr wq : World} {iv : Value} {x : Int} (hi : i < N) (hN : N = o.length) (hrn : rn ≤ i) (hx : o.getD i 0 = x) (hlen : rn = ((o.take i).filterMap (selF c g)).length) (hb : Bx wr rb 36 #[.bool false, .slice ra rn rc])
    (hs : selF c g x = none) (hB : But rb w0 wr) (h9 : Below wr.heap.size wr wq) (ho : wr.ownsRow w0.heap.size 76 2 (.slice ra rn rc) rn (fasCells ((o.take i).filterMap (selF c g)))) (hiv : iv = .int .i64 ((i + 1 : Nat) : Int)) :
    SelRel c g N rb o w0 iv wq ∧ N - (intOf iv).toNat < N - i := by
  have e : (o.take (i + 1)).filterMap (selF c g) = (o.take i).filterMap (selF c g) := by
    rw [sel_take o i (by omega), hx, hs]; simp
  refine ⟨⟨i + 1, ra, rn, rc, hi, hiv, by omega, Lib.hid (by rw [e, ← hlen]), Lib.hid (hb.keep h9), Lib.hid ?_, Lib.hid (hB.then h9)⟩, by rw [hiv]; simp [intOf]; omega⟩
  rw [e]
  exact own_block ho fun g' hg' => h9.block g' (own_lt ho hg')

set_option maxRecDepth 100000 in
set_option maxHeartbeats 8000000 in
theorem and_never (a b : Option Addr) (c d n m : Nat) (nv nw : Bool) (w : World) (h : (nv || nw) = true) :
    Calls Try.prog 16 #[.agg #[.bool nv, .slice a n c], .agg #[.bool nw, .slice b m d]] w (FcPost ⟨true, []⟩ w) := by
  cases nv with
  | true =>
    clear h
    go_enter Try.func16, Try.ntmps16
    go_wp2
    refine bodyPost_ret (v := .agg #[.bool true, .slice none 0 0]) ?_ ?_ ?_
    · simp [results, Try.results16, go_sem]
    · rfl
    · exact ⟨⟨_, rfl, none, 0, rfl, FaB.nil _ _ _ _⟩, (((Below.refl _ _).alloc (Nat.le_refl _) _).alloc (by simp) _).alloc (by simp; omega) _⟩
  | false =>
    obtain rfl : nw = true := h
    go_enter Try.func16, Try.ntmps16
    go_wp2
    refine bodyPost_ret (v := .agg #[.bool true, .slice none 0 0]) ?_ ?_ ?_
    · simp [results, Try.results16, go_sem]
    · rfl
    · exact ⟨⟨_, rfl, none, 0, rfl, FaB.nil _ _ _ _⟩, (((Below.refl _ _).alloc (Nat.le_refl _) _).alloc (by simp) _).alloc (by simp; omega) _⟩

set_option maxRecDepth 100000 in
set_option maxHeartbeats 16000000 in
theorem and_some (B B' : Nat) (a b : Option Addr) (c d n m : Nat) (l k : List (Int × Int)) (w : World) (hm : n + m ≤ 10000) (hn : n = l.length) (hk : m = k.length) (hr : FaB B w (.slice a n c) l) (hs : FaB B' w (.slice b m d) k) :
    Calls Try.prog 16 #[.agg #[.bool false, .slice a n c], .agg #[.bool false, .slice b m d]] w (FcPost ⟨false, nrm (l ++ k)⟩ w) := by
  obtain ⟨i0, hi, hz0, hz1, hz2⟩ := info_parts Try.infoFaR
  have HN := Lib.hid hn
  have HK := Lib.hid hk
  have b1 : (n : Int) ≤ 10000 := by omega
  have b2 : (m : Int) ≤ 10000 := by omega
  have HM := Lib.hid hm
  obtain ⟨W, hW⟩ : ∃ W, W = (((w.alloc (.cells #[.bool false, .slice a n c] 36)).alloc (.cells #[.bool false, .slice b m d] 36)).alloc (.cells #[.bool false, .slice none 0 0] 36)).alloc (.cells #[.bool false, .slice none 0 0] 36) := ⟨_, rfl⟩
  have hbx : Bx W w.heap.size 36 #[.bool false, .slice a n c] := by rw [hW]; exact alloc_past (alloc_past (alloc_past (alloc_at rfl) (by simp)) (by simp <;> omega)) (by simp <;> omega)
  have hby : Bx W (w.heap.size + 1) 36 #[.bool false, .slice b m d] := by rw [hW]; exact alloc_past (alloc_past (alloc_at (by simp)) (by simp)) (by simp <;> omega)
  have hbr : Bx W (w.heap.size + 1 + 1) 36 #[.bool false, .slice none 0 0] := by rw [hW]; exact alloc_past (alloc_at (by simp)) (by simp)
  have hbo : Bx W (w.heap.size + 1 + 1 + 1) 36 #[.bool false, .slice none 0 0] := by rw [hW]; exact alloc_at (by simp)
  have hbl : Below w.heap.size w W := by rw [hW]; exact ((((Below.refl _ _).alloc (Nat.le_refl _) _).alloc (by simp) _).alloc (by simp <;> omega) _).alloc (by simp <;> omega) _
  have hsz : W.heap.size = w.heap.size + 1 + 1 + 1 + 1 := by rw [hW]; simp
  have x0 := hbx.c0
  have x1 := hbx.c1
  have y0 := hby.c0
  have y1 := hby.c1
  have hr' := hr.below hbl
  have hs' := hs.below hbl
  have HV := Lib.hid (vars_go B B' a b c d n m false false l k W (by omega) hn hk hr' hs')
  have HX := Lib.hid hbx
  have HY := Lib.hid hby
  have HR := Lib.hid hbr
  have HO := Lib.hid hbo
  have HL := Lib.hid hbl
  have HF1 := Lib.hid hr
  have HF2 := Lib.hid hs
  have HSZ := Lib.hid hsz
  have HW := Lib.hid hW
  clear hbx hby hbr hbo hbl hr' hs' hr hs hsz hW hn hk hm
  go_enter Try.func16, Try.ntmps16
  go_wp2_with fail
  rw [← HW.out]
  refine HV.out.mono ?_
  rintro e w1 ⟨⟨ov, o, rfl, how, hvv, hle⟩, hb1⟩
  have hon : ∃ oa oc, ov = .slice oa o.length oc ∧ ∀ i, i < o.length → ∃ q, oa = some ⟨q, 0, none⟩ ∧ w.heap.size + 1 + 1 + 1 + 1 ≤ q ∧ q < w1.heap.size ∧ w1.cell? ⟨q, i, none⟩ = some (.int .i64 (o.getD i 0)) := by
    have hc := @World.ownsRow.cells _ _ _ _ _ _ _ how
    rcases how.2 with ⟨rfl, h0⟩ | ⟨q, oc, cur, rfl, hB, hg, hn, hr⟩
    · exact ⟨none, 0, by rw [h0], fun i hi => by omega⟩
    · refine ⟨_, oc, rfl, fun i hi => ⟨q, rfl, by rw [← HSZ.out]; exact hB, (Array.getElem?_eq_some_iff.1 hg).1, ?_⟩⟩
      have := hc (g := q) rfl i _ (intCells_get o i hi)
      rwa [add_none] at this
  obtain ⟨oa, oc, rfl, hoc⟩ := hon
  obtain ⟨N, hN⟩ : ∃ N, N = o.length := ⟨_, rfl⟩
  rw [← hN] at hoc ⊢
  have bN : (N : Int) ≤ 10000 := by have := HM.out; omega
  have HX1 := Lib.hid (HX.out.keep hb1)
  have HY1 := Lib.hid (HY.out.keep hb1)
  have HR1 := Lib.hid (HR.out.keep hb1)
  have HO1 := Lib.hid (HO.out.keep hb1)
  have HL1 := Lib.hid (HL.out.trans (hb1.mono HL.out.size))
  have HSL := Lib.hid (sel_and hvv)
  have HNN := Lib.hid hN
  have HOC := Lib.hid hoc
  have hs1 : w.heap.size + 1 + 1 + 1 + 1 ≤ w1.heap.size := by have := hb1.size; rw [HSZ.out] at this; exact this
  have HS1 := Lib.hid hs1
  clear how hvv hle hb1 hoc hN hs1 x0 x1 y0 y1 HX HY HR HO HL HSZ HW HV
  go_wp2
  go_loopw [7] (fun iv wr => SelRel (fun _ => true) (gAnd l k) N (w.heap.size + 1 + 1 + 1) o w1 iv wr) (fun iv _ => N - (intOf iv).toNat)
  case atStart => exact ⟨0, none, 0, 0, Nat.zero_le _, rfl, Nat.le_refl _, Lib.hid rfl, HO1, Lib.hid (World.ownsRow_nil _ _ _ _), Lib.hid (But.refl _ _)⟩
  case round =>
    obtain ⟨i, ra, rn, rc, hi1, rfl, hrn, HRN, HRB, HROW, HRL⟩ := hrel
    have hs1 := HS1.out
    by_cases hlt : i < N
    · obtain ⟨q, rfl, hq1, hq2, hcell⟩ := HOC.out i hlt
      obtain ⟨x, hx⟩ : ∃ x, o.getD i 0 = x := ⟨_, rfl⟩
      rw [hx] at hcell
      have hqr : q ≠ w.heap.size + 1 + 1 + 1 := by omega
      have hxr := (HX1.out.but HRL.out (by omega))
      have hyr := (HY1.out.but HRL.out (by omega))
      have hqw : q < wr.heap.size := Nat.lt_of_lt_of_le hq2 HRL.out.size
      have hbw : Below w.heap.size w wr := HL1.out.trans (HRL.out.below (by omega) (by omega))
      have px0 := SubW.cell hxr.c0 hxr.lt
      have px1 := SubW.cell hxr.c1 hxr.lt
      have py0 := SubW.cell hyr.c0 hyr.lt
      have py1 := SubW.cell hyr.c1 hyr.lt
      have po := SubW.cell ((HRL.out.cell (p := ⟨q, i, none⟩) hq2 hqr).trans hcell) hqw
      have TG1 := Lib.hid fun p : SubW wr => tags_go B a c n false l x p.wx (by have := HM.out; omega) HN.out ((HF1.out.below hbw).below p.h)
      have TG2 := Lib.hid fun p : SubW wr => tags_go B' b d m false k x p.wx (by have := HM.out; omega) HK.out ((HF2.out.below hbw).below p.h)
      obtain ⟨t1, ht1⟩ : ∃ t, t = lk l x := ⟨_, rfl⟩
      obtain ⟨t2, ht2⟩ : ∃ t, t = lk k x := ⟨_, rfl⟩
      have hand := i64_and (ht1 ▸ lk_lt l x) (ht2 ▸ lk_lt k x)
      obtain ⟨y, hy⟩ : ∃ y : Int, y = ((t1 &&& t2 : Nat) : Int) := ⟨_, rfl⟩
      rw [← hy] at hand
      rw [← ht1] at TG1
      rw [← ht2] at TG2
      have HXO := Lib.hid hx
      have HYY := Lib.hid (show y = (gAnd l k x : Int) by rw [hy, ht1, ht2]; rfl)
      have h0 : (0 : Int) ≤ (i : Int) := Int.natCast_nonneg _
      have h1 : (i : Int) < (N : Int) := by omega
      have HBW0 := Lib.hid hbw
      clear hx hxr hyr hbw ht1 ht2 hy
      go_wp2
      refine wp_region_sub (by kernel_rfl) (by kernel_rfl) ?_
      repeat (quiet_step (first | exact rfl | (go_at_call 47; first | (with_reducible exact Calls.sub_of _ (TG1.out _)) | exact Calls.sub_of _ (TG2.out _))))
      refine wpQuiet_nil ?_
      intro wq hw'
      obtain ⟨⟨wz', hbq⟩, hw''⟩ := hw'
      (try dsimp only at hw'')
      subst hw''
      (try dsimp only)
      have BQ := Lib.hid hbq
      have hci : wq.cell? ⟨q, i, none⟩ = some (.int .i64 x) := po ⟨wq, hbq⟩
      have hcb : wq.cell? ⟨w.heap.size + 1 + 1 + 1, 1, none⟩ = some (.slice ra rn rc) := (HRB.out.keep hbq).c1
      have hqq : q < wq.heap.size := Nat.lt_of_lt_of_le hqw hbq.size
      clear hbq px0 px1 py0 py1 po TG1 TG2 hand
      by_cases h255 : y = 255
      · have k1 : (y != 255) = false := by simp [h255]
        have HSE := Lib.hid (show selF (fun _ => true) (gAnd l k) x = none by unfold selF; rw [if_neg]; have := HYY.out; simp; omega)
        clear h255
        go_wp2
        exact sel_skip (x := x) hlt HNN.out hrn HXO.out HRN.out HRB.out HSE.out HRL.out BQ.out HROW.out (by go_num)
      · have k1 : (y != 255) = true := by simp [h255]
        have HSE := Lib.hid (show selF (fun _ => true) (gAnd l k) x = some (x, (gAnd l k x : Int)) by unfold selF; rw [if_pos]; have := HYY.out; simp; omega)
        have HBQ := Lib.hid (HRB.out.keep BQ.out)
        have HOWQ := Lib.hid (own_block HROW.out (w' := wq) fun g' hg' => BQ.out.block g' (own_lt HROW.out hg'))
        have HBW := Lib.hid (HRL.out.then BQ.out)
        have HWQ := Lib.hid (show w1.heap.size ≤ wq.heap.size from HBW.out.size)
        have HOL := Lib.hid (show ∀ g, Value.ownBlock (.slice ra rn rc) = some g → w1.heap.size ≤ g from fun g hg => (HROW.out.lt g hg).1)
        have HRQ := Lib.hid (show w.heap.size + 1 + 1 + 1 < w1.heap.size by omega)
        have bR : (rn : Int) ≤ 10000 := by omega
        have HXX := Lib.hid (rfl : x = x)
        obtain ⟨X, hX⟩ : ∃ X, X = fasCells ((o.take i).filterMap (selF (fun _ => true) (gAnd l k))) := ⟨_, rfl⟩
        have HXC := Lib.hid hX
        rw [← hX] at HOWQ
        clear h255 hX
        go_upto_region 10 with fail
        (try dsimp only [List.append])
        refine wp_region_noPanic ?_
        refine wp_region_held_drew (S := (fun w' => w'.cell? ⟨q, i, none⟩ = some (.int .i64 x))) (by kernel_rfl) (by (try dsimp only); exact hci) (fun hHeld => ?_)
        refine' tk_any 0 40 (v := _) ?hi1 ?hd1 (by kernel_rfl) (by kernel_rfl) (by kernel_rfl) (fun _ _ _ h => h) ?hy1 hHeld ?hr1
        case hi1 => (simp only [List.getElem?_toArray, List.getElem?_cons_zero]; rfl)
        case hd1 => rfl
        case hy1 =>
          refine' Or.inl ⟨?hw1, ?hx1⟩
          case hw1 => rfl
          case hx1 => (intro w hSw; (try dsimp only at hSw); go_simp; (try with_reducible rfl))
        (try simp only [Act.put, List.setIfInBounds_toArray, List.set_cons_zero, List.set_cons_succ])
        refine' tk_any 2 42 (v := _) ?hi2 ?hd2 (by kernel_rfl) (by kernel_rfl) (by kernel_rfl) (fun _ _ _ h => h) ?hy2 hHeld ?hr2
        case hi2 => (simp only [List.getElem?_toArray, List.getElem?_cons_succ, List.getElem?_cons_zero]; rfl)
        case hd2 => rfl
        case hy2 =>
          refine' Or.inl ⟨?hw2, ?hx2⟩
          case hw2 => rfl
          case hx2 => (intro w hSw; (try dsimp only at hSw); go_simp; (try with_reducible rfl))
        (try simp only [Act.put, List.setIfInBounds_toArray, List.set_cons_zero, List.set_cons_succ])
        refine' tk_any 3 43 (v := _) ?hi3 ?hd3 (by kernel_rfl) (by kernel_rfl) (by kernel_rfl) (fun _ _ _ h => h) ?hy3 hHeld ?hr3
        case hi3 => (simp only [List.getElem?_toArray, List.getElem?_cons_succ, List.getElem?_cons_zero]; rfl)
        case hd3 => rfl
        case hy3 =>
          refine' Or.inl ⟨?hw3, ?hx3⟩
          case hw3 => rfl
          case hx3 => (intro w hSw; (try dsimp only at hSw); go_simp; (try with_reducible rfl))
        (try simp only [Act.put, List.setIfInBounds_toArray, List.set_cons_zero, List.set_cons_succ])
        refine' tk_any 4 44 (v := _) ?hi4 ?hd4 (by kernel_rfl) (by kernel_rfl) (by kernel_rfl) (fun _ _ _ h => h) ?hy4 hHeld ?hr4
        case hi4 => (simp only [List.getElem?_toArray, List.getElem?_cons_succ, List.getElem?_cons_zero]; rfl)
        case hd4 => rfl
        case hy4 =>
          refine' Or.inl ⟨?hw4, ?hx4⟩
          case hw4 => rfl
          case hx4 => (intro w hSw; (try dsimp only at hSw); go_simp; (try with_reducible rfl))
        (try simp only [Act.put, List.setIfInBounds_toArray, List.set_cons_zero, List.set_cons_succ])
        refine' tk_any 5 45 (v := _) ?hi5 ?hd5 (by kernel_rfl) (by kernel_rfl) (by kernel_rfl) (fun _ _ _ h => h) ?hy5 hHeld ?hr5
        case hi5 => (simp only [List.getElem?_toArray, List.getElem?_cons_succ, List.getElem?_cons_zero]; rfl)
        case hd5 => rfl
        case hy5 =>
          refine' Or.inl ⟨?hw5, ?hx5⟩
          case hw5 => rfl
          case hx5 => (intro w hSw; (try dsimp only at hSw); go_simp; (try with_reducible rfl))
        (try simp only [Act.put, List.setIfInBounds_toArray, List.set_cons_zero, List.set_cons_succ])
        refine' tk_any 6 46 (v := _) ?hi6 ?hd6 (by kernel_rfl) (by kernel_rfl) (by kernel_rfl) (fun _ _ _ h => h) ?hy6 hHeld ?hr6
        case hi6 => (simp only [List.getElem?_toArray, List.getElem?_cons_succ, List.getElem?_cons_zero]; rfl)
        case hd6 => rfl
        case hy6 =>
          refine' Or.inl ⟨?hw6, ?hx6⟩
          case hw6 => rfl
          case hx6 => (intro w hSw; (try dsimp only at hSw); go_simp; (try with_reducible rfl))
        (try simp only [Act.put, List.setIfInBounds_toArray, List.set_cons_zero, List.set_cons_succ])
        refine' tk_any 7 47 (v := _) ?hi7 ?hd7 (by kernel_rfl) (by kernel_rfl) (by kernel_rfl) (fun _ _ _ h => h) ?hy7 hHeld ?hr7
        case hi7 => (simp only [List.getElem?_toArray, List.getElem?_cons_succ, List.getElem?_cons_zero]; rfl)
        case hd7 => rfl
        case hy7 =>
          refine' Or.inl ⟨?hw7, ?hx7⟩
          case hw7 => rfl
          case hx7 => (intro w hSw; (try dsimp only at hSw); go_simp; (try with_reducible rfl))
        (try simp only [Act.put, List.setIfInBounds_toArray, List.set_cons_zero, List.set_cons_succ])
        refine' tk_two 1 8 ?hi16 ?hj16 (by kernel_rfl) ?ha16 ?hb16
        case hi16 => (simp only [List.getElem?_toArray, List.getElem?_cons_succ, List.getElem?_cons_zero]; rfl)
        case hj16 => (simp only [List.getElem?_toArray, List.getElem?_cons_succ, List.getElem?_cons_zero]; rfl)
        case ha16 =>
          intro K hK
          go_simp
          clear hHeld
          refine hK.out _ _ (by (try dsimp only); exact hci) (fun hHeld => ?_)
          clear hK K
          (try simp only [Act.put, List.setIfInBounds_toArray, List.set_cons_zero, List.set_cons_succ])
          refine' tk_call 8 ?hi8 (by kernel_rfl) ?hr8
          case hi8 => (simp only [List.getElem?_toArray, List.getElem?_cons_succ, List.getElem?_cons_zero]; rfl)
          intro K hK
          go_simp
          obtain ⟨wA, hwA⟩ : ∃ wA : World, wA = (wq.alloc (.cells #[.int .i64 x, .int .i64 y] 76)).drew := ⟨_, rfl⟩
          rw [← hwA]
          have hAB : Below wq.heap.size wq wA := by rw [hwA]; exact ((Below.refl _ _).alloc (Nat.le_refl _) _).drew
          have hAi : wA.cell? ⟨q, i, none⟩ = some (.int .i64 x) := (hAB.cell (p := ⟨q, i, none⟩) hqq).trans hci
          have hAc : wA.cell? ⟨w.heap.size + 1 + 1 + 1, 1, none⟩ = some (.slice ra rn rc) := (hAB.cell (p := ⟨_, 1, none⟩) HBQ.out.lt).trans hcb
          have HNB := Lib.hid (show wA.heap[wq.heap.size]? = some (.cells #[.int .i64 x, .int .i64 y] 76 (0, 0)) by rw [hwA]; exact alloc_at (w := wq) rfl)
          have HOA := Lib.hid (own_block HOWQ.out (w' := wA) fun g' hg' => hAB.block g' (own_lt HOWQ.out hg'))
          have HAS := Lib.hid (show wA.heap.size = wq.heap.size + 1 by rw [hwA]; simp)
          have HW1 := Lib.hid (show w1.heap.size ≤ wA.heap.size from Nat.le_trans HWQ.out hAB.size)
          have HAB := Lib.hid hAB
          clear hAB hwA
          clear hHeld
          refine hK.out _ _ (by (try dsimp only); exact hAi) (fun hHeld => ?_)
          clear hK K
          (try simp only [Act.put, List.setIfInBounds_toArray, List.set_cons_zero, List.set_cons_succ])
          refine' tk_call 9 ?hi9 (by kernel_rfl) ?hr9
          case hi9 => (simp only [List.getElem?_toArray, List.getElem?_cons_succ, List.getElem?_cons_zero]; rfl)
          intro K hK
          refine step_append_lies _ (by rfl) _ _ _ (by rfl) w1.heap.size 76 i0 _ 2 16 Try.underlying34 hi hz0 hz1 hz2 rfl (by omega) (.slice ra rn rc) rn X (by rfl) HOA.out ⟨wq.heap.size, 0, none⟩ 1 1 [.int .i64 x, .int .i64 y] (by rfl) (by rfl) (World.news_of_block (cs := #[.int .i64 x, .int .i64 y]) (t := 76) (fr := (0, 0)) HNB.out) (by simp [Value.oneCell']) (by omega) (by unfold maxLen; omega) (by omega) HW1.out wA.heap.size rfl ?_
          intro gg cap' w9 hown9 hgrow9 hat9 hlt9
          have hb9 : But (w.heap.size + 1 + 1 + 1) w1 w9 := (HBW.out.then HAB.out).grown hgrow9 HOL.out
          have hbx9 := app_box HBQ.out HAB.out hgrow9 HOL.out HRQ.out
          have hc9 : w9.cell? ⟨w.heap.size + 1 + 1 + 1, 1, none⟩ = some (.slice ra rn rc) := hbx9.c1
          have hf9 : w9.frozen? ⟨w.heap.size + 1 + 1 + 1, 1, none⟩ = false := hbx9.fr 1
          have hi9 : w9.cell? ⟨q, i, none⟩ = some (.int .i64 x) := (hb9.cell (p := ⟨q, i, none⟩) hq2 hqr).trans hcell
          have hgr9 : gg ≠ w.heap.size + 1 + 1 + 1 := app_ne HAB.out hat9 HOL.out HRQ.out HWQ.out
          have HB9 := Lib.hid hb9
          have HBX9 := Lib.hid hbx9
          have HOWN9 := Lib.hid hown9
          have HGR9 := Lib.hid hgr9
          clear hb9 hbx9 hown9 hgrow9 hat9 hlt9 hgr9
          clear hHeld
          refine hK.out _ _ (by (try dsimp only); exact hi9) (fun hHeld => ?_)
          clear hK K
          (try simp only [Act.put, List.setIfInBounds_toArray, List.set_cons_zero, List.set_cons_succ])
          refine' tk_any 10 50 (v := _) ?hi10 ?hd10 (by kernel_rfl) (by kernel_rfl) (by kernel_rfl) (fun _ _ _ h => h) ?hy10 hHeld ?hr10
          case hi10 => (simp only [List.getElem?_toArray, List.getElem?_cons_succ, List.getElem?_cons_zero]; rfl)
          case hd10 => rfl
          case hy10 =>
            refine' Or.inl ⟨?hw10, ?hx10⟩
            case hw10 => rfl
            case hx10 => (intro w hSw; (try dsimp only at hSw); go_simp; (try with_reducible rfl))
          (try simp only [Act.put, List.setIfInBounds_toArray, List.set_cons_zero, List.set_cons_succ])
          refine' tk_call 11 ?hi11 (by kernel_rfl) ?hr11
          case hi11 => (simp only [List.getElem?_toArray, List.getElem?_cons_succ, List.getElem?_cons_zero]; rfl)
          intro K hK
          go_simp
          clear hHeld
          refine hK.out _ _ (by (try dsimp only); exact set_blk hqr hi9) (fun hHeld => ?_)
          clear hK K
          (try simp only [Act.put, List.setIfInBounds_toArray, List.set_cons_zero, List.set_cons_succ])
          refine wpAnyH_done (by kernel_rfl) ?_ _
          refine NoPanic.normal ?_
          go_wp2
          exact sel_end (x := x) hlt HNN.out hrn HXO.out HRN.out HSE.out HB9.out HBX9.out (by have h := HOWN9.out; rw [HXC.out, HYY.out] at h; exact h) HGR9.out (by go_num)
        case hb16 =>
          intro K hK
          go_simp
          obtain ⟨wA, hwA⟩ : ∃ wA : World, wA = (wq.alloc (.cells #[.int .i64 x, .int .i64 y] 76)).drew := ⟨_, rfl⟩
          rw [← hwA]
          have hAB : Below wq.heap.size wq wA := by rw [hwA]; exact ((Below.refl _ _).alloc (Nat.le_refl _) _).drew
          have hAi : wA.cell? ⟨q, i, none⟩ = some (.int .i64 x) := (hAB.cell (p := ⟨q, i, none⟩) hqq).trans hci
          have hAc : wA.cell? ⟨w.heap.size + 1 + 1 + 1, 1, none⟩ = some (.slice ra rn rc) := (hAB.cell (p := ⟨_, 1, none⟩) HBQ.out.lt).trans hcb
          have HNB := Lib.hid (show wA.heap[wq.heap.size]? = some (.cells #[.int .i64 x, .int .i64 y] 76 (0, 0)) by rw [hwA]; exact alloc_at (w := wq) rfl)
          have HOA := Lib.hid (own_block HOWQ.out (w' := wA) fun g' hg' => hAB.block g' (own_lt HOWQ.out hg'))
          have HAS := Lib.hid (show wA.heap.size = wq.heap.size + 1 by rw [hwA]; simp)
          have HW1 := Lib.hid (show w1.heap.size ≤ wA.heap.size from Nat.le_trans HWQ.out hAB.size)
          have HAB := Lib.hid hAB
          clear hAB hwA
          clear hHeld
          refine hK.out _ _ (by (try dsimp only); exact hAi) (fun hHeld => ?_)
          clear hK K
          (try simp only [Act.put, List.setIfInBounds_toArray, List.set_cons_zero, List.set_cons_succ])
          refine' tk_call 1 ?hi12 (by kernel_rfl) ?hr12
          case hi12 => (simp only [List.getElem?_toArray, List.getElem?_cons_succ, List.getElem?_cons_zero]; rfl)
          intro K hK
          go_simp
          clear hHeld
          refine hK.out _ _ (by (try dsimp only); exact hAi) (fun hHeld => ?_)
          clear hK K
          (try simp only [Act.put, List.setIfInBounds_toArray, List.set_cons_zero, List.set_cons_succ])
          refine' tk_call 9 ?hi13 (by kernel_rfl) ?hr13
          case hi13 => (simp only [List.getElem?_toArray, List.getElem?_cons_succ, List.getElem?_cons_zero]; rfl)
          intro K hK
          refine step_append_lies _ (by rfl) _ _ _ (by rfl) w1.heap.size 76 i0 _ 2 16 Try.underlying34 hi hz0 hz1 hz2 rfl (by omega) (.slice ra rn rc) rn X (by rfl) HOA.out ⟨wq.heap.size, 0, none⟩ 1 1 [.int .i64 x, .int .i64 y] (by rfl) (by rfl) (World.news_of_block (cs := #[.int .i64 x, .int .i64 y]) (t := 76) (fr := (0, 0)) HNB.out) (by simp [Value.oneCell']) (by omega) (by unfold maxLen; omega) (by omega) HW1.out wA.heap.size rfl ?_
          intro gg cap' w9 hown9 hgrow9 hat9 hlt9
          have hb9 : But (w.heap.size + 1 + 1 + 1) w1 w9 := (HBW.out.then HAB.out).grown hgrow9 HOL.out
          have hbx9 := app_box HBQ.out HAB.out hgrow9 HOL.out HRQ.out
          have hc9 : w9.cell? ⟨w.heap.size + 1 + 1 + 1, 1, none⟩ = some (.slice ra rn rc) := hbx9.c1
          have hf9 : w9.frozen? ⟨w.heap.size + 1 + 1 + 1, 1, none⟩ = false := hbx9.fr 1
          have hi9 : w9.cell? ⟨q, i, none⟩ = some (.int .i64 x) := (hb9.cell (p := ⟨q, i, none⟩) hq2 hqr).trans hcell
          have hgr9 : gg ≠ w.heap.size + 1 + 1 + 1 := app_ne HAB.out hat9 HOL.out HRQ.out HWQ.out
          have HB9 := Lib.hid hb9
          have HBX9 := Lib.hid hbx9
          have HOWN9 := Lib.hid hown9
          have HGR9 := Lib.hid hgr9
          clear hb9 hbx9 hown9 hgrow9 hat9 hlt9 hgr9
          clear hHeld
          refine hK.out _ _ (by (try dsimp only); exact hi9) (fun hHeld => ?_)
          clear hK K
          (try simp only [Act.put, List.setIfInBounds_toArray, List.set_cons_zero, List.set_cons_succ])
          refine' tk_any 10 50 (v := _) ?hi14 ?hd14 (by kernel_rfl) (by kernel_rfl) (by kernel_rfl) (fun _ _ _ h => h) ?hy14 hHeld ?hr14
          case hi14 => (simp only [List.getElem?_toArray, List.getElem?_cons_succ, List.getElem?_cons_zero]; rfl)
          case hd14 => rfl
          case hy14 =>
            refine' Or.inl ⟨?hw14, ?hx14⟩
            case hw14 => rfl
            case hx14 => (intro w hSw; (try dsimp only at hSw); go_simp; (try with_reducible rfl))
          (try simp only [Act.put, List.setIfInBounds_toArray, List.set_cons_zero, List.set_cons_succ])
          refine' tk_call 11 ?hi15 (by kernel_rfl) ?hr15
          case hi15 => (simp only [List.getElem?_toArray, List.getElem?_cons_succ, List.getElem?_cons_zero]; rfl)
          intro K hK
          go_simp
          clear hHeld
          refine hK.out _ _ (by (try dsimp only); exact set_blk hqr hi9) (fun hHeld => ?_)
          clear hK K
          (try simp only [Act.put, List.setIfInBounds_toArray, List.set_cons_zero, List.set_cons_succ])
          refine wpAnyH_done (by kernel_rfl) ?_ _
          refine NoPanic.normal ?_
          go_wp2
          exact sel_end (x := x) hlt HNN.out hrn HXO.out HRN.out HSE.out HB9.out HBX9.out (by have h := HOWN9.out; rw [HXC.out, HYY.out] at h; exact h) HGR9.out (by go_num)
    · have hin : i = N := by omega
      have hout := HRB.out
      have hrr := HR1.out.but HRL.out (by omega)
      have o0 := hout.c0
      have o1 := hout.c1
      have r0 := hrr.c0
      have r1 := hrr.c1
      have f0 := hrr.fr 0
      have f1 := hrr.fr 1
      have HRES := Lib.hid (sel_done hin HNN.out HRN.out HROW.out HSL.out)
      have HBL := Lib.hid (HL1.out.trans (HRL.out.below (B := w.heap.size) (by omega) (by omega)))
      clear hin hout hrr
      go_wp2
      refine bodyPost_ret (v := .agg #[.bool false, .slice ra rn rc]) ?_ ?_ ?_
      · simp [results, Try.results16, go_sem, r0, r1]
      · rfl
      · exact fc_done HRES.out HBL.out (by omega) (by omega) (by have h := HRES.out.1; unfold maxLen; omega)

theorem and_go (B B' : Nat) (a b : Option Addr) (c d n m : Nat) (F G : Fcs) (w : World) (hm : n + m ≤ 10000) (hn : n = F.l.length) (hk : m = G.l.length) (hr : FaB B w (.slice a n c) F.l) (hs : FaB B' w (.slice b m d) G.l) :
    Calls Try.prog 16 #[.agg #[.bool F.never, .slice a n c], .agg #[.bool G.never, .slice b m d]] w (FcPost (andF F G) w) := by
  unfold andF
  cases h : (F.never || G.never) with
  | true => rw [if_pos rfl]; exact and_never a b c d n m _ _ w h
  | false =>
    rw [Bool.or_eq_false_iff] at h
    rw [if_neg (by simp), h.1, h.2]
    exact and_some B B' a b c d n m F.l G.l w hm hn hk hr hs
end Go.Proofs.Ytgjkobkcmgliaaa
