import Derived.Test.YtgjkobkcmgliaaaNwL
namespace Go.Proofs.Ytgjkobkcmgliaaa
open Go.RowKit

/-- the variables of facts, rising, each once -/
def Vars (o : List Int) (l : List (Int × Int)) : Prop := o.Pairwise (· < ·) ∧ ∀ v, v ∈ o ↔ ∃ f ∈ l, f.1 = v
theorem Vars.nil : Vars [] [] := ⟨List.Pairwise.nil, by simp⟩
/-- one variable more, at its place -/
theorem Vars.step {o : List Int} {l : List (Int × Int)} {f : Int × Int} {j : Nat} (h : Vars o l) (hj : j ≤ o.length) (hlt : ∀ i, i < j → o.getD i 0 < f.1) (hne : j < o.length → f.1 < o.getD j 0) :
    Vars (o.take j ++ [f.1] ++ o.drop j) (l ++ [f]) := by
  obtain ⟨h1, h2⟩ := h
  have hmem : ∀ x, x ∈ o ↔ x ∈ o.take j ∨ x ∈ o.drop j := fun x => by
    conv => lhs; rw [← List.take_append_drop j o, List.mem_append]
  have ht : ∀ x ∈ o.take j, x < f.1 := fun x hx => by
    obtain ⟨i, hi, rfl⟩ := List.getElem_of_mem hx
    have hi2 : i < j := by simp at hi; omega
    have := hlt i hi2
    rw [List.getD_eq_getElem?_getD, List.getElem?_eq_getElem (by omega)] at this
    simpa using this
  have hpw := List.pairwise_append.1 (show (o.take j ++ o.drop j).Pairwise (· < ·) by rwa [List.take_append_drop])
  have hd : ∀ x ∈ o.drop j, f.1 < x := fun x hx => by
    obtain ⟨i, hi, rfl⟩ := List.getElem_of_mem hx
    have hjl : j < o.length := by simp at hi; omega
    have h0 := hne hjl
    rw [List.getD_eq_getElem?_getD, List.getElem?_eq_getElem hjl] at h0
    cases i with
    | zero => simpa using h0
    | succ i =>
      have := List.pairwise_iff_getElem.1 h1 j (j + (i + 1)) hjl (by simp at hi; omega) (by omega)
      simp only [Option.getD_some] at h0
      rw [List.getElem_drop]
      omega
  refine ⟨List.pairwise_append.2 ⟨List.pairwise_append.2 ⟨hpw.1, List.pairwise_singleton .., fun x hx y hy => ?_⟩, hpw.2.1, fun x hx y hy => ?_⟩, fun v => ?_⟩
  · rw [List.mem_singleton.1 hy]; exact ht x hx
  · rcases List.mem_append.1 hx with hx | hx
    · exact hpw.2.2 x hx y hy
    · rw [List.mem_singleton.1 hx]; exact hd y hy
  · have e := h2 v
    rw [hmem] at e
    simp only [List.mem_append, List.mem_singleton]
    constructor
    · rintro ((h | h) | h)
      · obtain ⟨g, hg, e⟩ := e.1 (.inl h); exact ⟨g, .inl hg, e⟩
      · exact ⟨f, .inr rfl, h.symm⟩
      · obtain ⟨g, hg, e⟩ := e.1 (.inr h); exact ⟨g, .inl hg, e⟩
    · rintro ⟨g, hg | rfl, e2⟩
      · rcases e.2 ⟨g, hg, e2⟩ with h | h
        · exact .inl (.inl h)
        · exact .inr h
      · exact .inl (.inr e2.symm)
/-- it is there already -/
theorem Vars.there {o : List Int} {l : List (Int × Int)} {f : Int × Int} {j : Nat} (h : Vars o l) (hj : j < o.length) (he : o.getD j 0 = f.1) : Vars o (l ++ [f]) := by
  refine ⟨h.1, fun v => ?_⟩
  rw [h.2]
  simp only [List.mem_append, List.mem_singleton]
  constructor
  · rintro ⟨g, hg, e⟩; exact ⟨g, .inl hg, e⟩
  · rintro ⟨g, hg | rfl, e⟩
    · exact ⟨g, hg, e⟩
    · have : v ∈ o := by rw [← e, ← he, List.getD_eq_getElem?_getD, List.getElem?_eq_getElem hj]; exact List.getElem_mem hj
      exact (h.2 v).1 this
def intCells (o : List Int) : List Value := o.map (Value.int .i64)
theorem intCells_get (o : List Int) (j : Nat) (h : j < o.length) : (intCells o)[j]? = some (.int .i64 (o.getD j 0)) := by
  simp [intCells, List.getD_eq_getElem?_getD, h]
theorem intCells_one (o : List Int) : ∀ u ∈ intCells o, u.oneCell' = true := by
  intro u hu
  obtain ⟨x, _, rfl⟩ := List.mem_map.1 hu
  rfl
theorem Try.infoInt : (Try.prog.info? 3).map (fun i => (i.zero, i.size, i.bytes)) = some (some (.int .i64 0), 1, 8) := by kernel_rfl
/-- two rows, one behind the other, in memory of their own -/
def TwoRel (B n m : Nat) (l k : List (Int × Int)) (wb : World) (v : Value) (W : World) : Prop :=
  ∃ g cap, v = .slice (some ⟨g, 0, none⟩) (n + m) cap ∧ Hid (W.ownsRow B 76 2 (.slice (some ⟨g, 0, none⟩) (n + m) cap) (n + m) (fasCells l ++ fasCells k)) ∧ Hid (Below B wb W)
/-- the row with one more in it -/
def InsRel (on : Nat) (xs : List Value) (wz : World) (v : Value) (W : World) : Prop :=
  ∃ g cap, v = .slice (some ⟨g, 0, none⟩) (on + 1) cap ∧ Hid (W.ownsRow wz.heap.size 3 1 (.slice (some ⟨g, 0, none⟩) (on + 1) cap) (on + 1) xs) ∧ Hid (Below wz.heap.size wz W)
theorem intCells_len (o : List Int) : (intCells o).length = o.length * 1 := by simp [intCells]
/-- the round's relation, one variable more in the row -/
def VarsRel (N : Nat) (L : List (Int × Int)) (wc : World) (ov iv : Value) (wr : World) : Prop := ∃ (i : Nat) (o : List Int), i ≤ N ∧ iv = .int .i64 i ∧ Hid (wr.ownsRow wc.heap.size 3 1 ov o.length (intCells o)) ∧ Hid (Vars o (L.take i)) ∧ Hid (o.length ≤ i) ∧ Hid (Below wc.heap.size wc wr)
theorem ins_end {N i j on g cap n9 : Nat} {o : List Int} {L : List (Int × Int)} {wc wo wz w9 : World} {iv : Value} {x : Int} {xs : List Value} (hi : i + 1 ≤ N) (hon : on = o.length) (hle : on ≤ i) (hv : Vars o (L.take i)) (htk : L.take (i + 1) = L.take i ++ [L.getD i fa0]) (hx : x = (L.getD i fa0).1)
    (hlt : ∀ i, i < j → o.getD i 0 < x) (hgt : j < o.length → (L.getD i fa0).1 < o.getD j 0) (hj : j ≤ on) (hbr : Below wc.heap.size wc wo) (hbz : Below wo.heap.size wo wz)
    (ho : w9.ownsRow wz.heap.size 3 1 (.slice (some ⟨g, 0, none⟩) n9 cap) n9 xs) (hb : Below wz.heap.size wz w9) (hxs : xs = intCells (o.take j ++ [x] ++ o.drop j)) (hiv : iv = .int .i64 ((i + 1 : Nat) : Int)) :
    VarsRel N L wc (.slice (some ⟨g, 0, none⟩) n9 cap) iv w9 ∧ N - (intOf iv).toNat < N - i := by
  have hl : (o.take j ++ [x] ++ o.drop j).length = on + 1 := by simp; omega
  have hn : n9 = on + 1 := by
    have h1 := ho.1
    rw [hxs, intCells_len, hl] at h1
    omega
  refine ⟨⟨i + 1, o.take j ++ [x] ++ o.drop j, hi, hiv, Lib.hid ?_, Lib.hid ?_, Lib.hid (by omega), Lib.hid ?_⟩, by rw [hiv]; simp [intOf]; omega⟩
  · rw [hl, ← hn, ← hxs]
    exact own_base ho (Nat.le_trans hbr.size hbz.size)
  · rw [htk, hx]
    exact hv.step (by omega) (by rw [← hx]; exact hlt) hgt
  · exact hbr.trans ((hbz.trans (hb.mono hbz.size)).mono hbr.size)
theorem ins_srcA {wo wz : World} {q on j : Nat} {o : List Int} (hq : q < wo.heap.size) (hc : ∀ j, j < on → wo.cell? ⟨q, j, none⟩ = some (.int .i64 (o.getD j 0))) (hon : on = o.length) (hj : j ≤ on) (hb : Below wo.heap.size wo wz) :
    ∀ w' : World, Below wz.heap.size wz w' → (j = 0 ∧ (some (⟨q, 0, none⟩ : Addr)) = none) ∨ ∃ ad, (some (⟨q, 0, none⟩ : Addr)) = some ad ∧ ∀ i u, (intCells (o.take j))[i]? = some u → w'.cell? (ad.add i) = some u := by
  intro w' hb'
  refine .inr ⟨_, rfl, fun i u hi => ?_⟩
  have hil : i < (o.take j).length := by
    have := (List.getElem?_eq_some_iff.1 hi).1
    simpa [intCells] using this
  have h1 := intCells_get (o.take j) i hil
  rw [hi] at h1
  rw [Option.some.inj h1, add_none]
  simp only [List.length_take] at hil
  have e : (o.take j).getD i 0 = o.getD i 0 := by
    simp only [List.getD_eq_getElem?_getD]
    rw [List.getElem?_take_of_lt (by omega)]
  rw [e, hb'.cell (p := ⟨q, i, none⟩) (Nat.lt_of_lt_of_le hq hb.size), hb.cell (p := ⟨q, i, none⟩) hq]
  exact hc i (by omega)
theorem ins_srcD {wo wz : World} {q on j : Nat} {o : List Int} (hq : q < wo.heap.size) (hc : ∀ j, j < on → wo.cell? ⟨q, j, none⟩ = some (.int .i64 (o.getD j 0))) (hon : on = o.length) (hj : j ≤ on) (hb : Below wo.heap.size wo wz) {p m : Nat} (hp : j < on → p = j) (_hm : m = on - j) :
    ∀ w' : World, Below wz.heap.size wz w' → (m = 0 ∧ (some (⟨q, p, none⟩ : Addr)) = none) ∨ ∃ ad, (some (⟨q, p, none⟩ : Addr)) = some ad ∧ ∀ i u, (intCells (o.drop j))[i]? = some u → w'.cell? (ad.add i) = some u := by
  intro w' hb'
  refine .inr ⟨_, rfl, fun i u hi => ?_⟩
  have hil : i < (o.drop j).length := by
    have := (List.getElem?_eq_some_iff.1 hi).1
    simpa [intCells] using this
  have h1 := intCells_get (o.drop j) i hil
  rw [hi] at h1
  simp only [List.length_drop] at hil
  rw [Option.some.inj h1, hp (by omega), Addr.add_lit]
  have e : (o.drop j).getD i 0 = o.getD (j + i) 0 := by simp [List.getD_eq_getElem?_getD]
  rw [e, hb'.cell (p := ⟨q, j + i, none⟩) (Nat.lt_of_lt_of_le hq hb.size), hb.cell (p := ⟨q, j + i, none⟩) hq]
  exact hc (j + i) (by omega)
theorem ins_lenA {on j : Nat} {o : List Int} (hon : on = o.length) (hj : j ≤ on) : (intCells (o.take j)).length = j * 1 := by simp [intCells]; omega
theorem ins_lenD {on j m : Nat} {o : List Int} (hon : on = o.length) (hm : m = on - j) : (intCells (o.drop j)).length = m * 1 := by simp [intCells]; omega
set_option maxRecDepth 100000 in
set_option maxHeartbeats 8000000 in
theorem vars_go (B B' : Nat) (a b : Option Addr) (c d n m : Nat) (nv nw : Bool) (l k : List (Int × Int)) (w : World) (hm : n + m ≤ 100000) (hn : n = l.length) (hk : m = k.length) (hr : FaB B w (.slice a n c) l) (hs : FaB B' w (.slice b m d) k) :
    Calls Try.prog 46 #[.agg #[.bool nv, .slice a n c], .agg #[.bool nw, .slice b m d]] w fun e w' => (∃ v o, e = .returned v ∧ w'.ownsRow w.heap.size 3 1 v o.length (intCells o) ∧ Vars o (l ++ k) ∧ o.length ≤ n + m) ∧ Below w.heap.size w w' := by
  obtain ⟨i0, hi, hz0, hz1, hz2⟩ := info_parts Try.infoFaR
  have HN := Lib.hid hn
  have HK := Lib.hid hk
  have b1 : (n : Int) ≤ 100000 := by omega
  have b2 : (m : Int) ≤ 100000 := by omega
  obtain ⟨W, hW⟩ : ∃ W, W = (w.alloc (.cells #[.bool nv, .slice a n c] 36)).alloc (.cells #[.bool nw, .slice b m d] 36) := ⟨_, rfl⟩
  have hbx : Bx W w.heap.size 36 #[.bool nv, .slice a n c] := by rw [hW]; exact (Bx.made _ _ _).keep ((Below.refl _ _).alloc (Nat.le_refl _) _)
  have hby : Bx W (w.heap.size + 1) 36 #[.bool nw, .slice b m d] := by rw [hW]; have := Bx.made (w.alloc (.cells #[.bool nv, .slice a n c] 36)) 36 #[.bool nw, .slice b m d]; simpa using this
  have hbl : Below w.heap.size w W := by rw [hW]; exact ((Below.refl _ _).alloc (Nat.le_refl _) _).alloc (by simp) _
  have hsz : W.heap.size = w.heap.size + 2 := by rw [hW]; simp
  have HS1 := Lib.hid ((hr.below hbl).src hn)
  have HS2 := Lib.hid ((hs.below hbl).src hk)
  have HX := Lib.hid hbx
  have HY := Lib.hid hby
  have HW := Lib.hid hW
  have HB := Lib.hid hbl
  have HL1 := Lib.hid (show (fasCells l).length = n * 2 by rw [fasCells_len, hn])
  have HL2 := Lib.hid (show (fasCells k).length = m * 2 by rw [fasCells_len, hk])
  have c1 : W.cell? ⟨w.heap.size, 1, none⟩ = some (.slice a n c) := hbx.c 1
  have c2 : W.cell? ⟨w.heap.size + 1, 1, none⟩ = some (.slice b m d) := hby.c 1
  have HSZ := Lib.hid hsz
  have hq0 : w.heap.size < W.heap.size := by omega
  have hq1 : w.heap.size + 1 < W.heap.size := by omega
  clear hbx hby hbl hr hs hW hn hk hsz
  go_enter Try.func46, Try.ntmps46
  go_upto_region 2 with fail
  rw [← HW.out]
  go_cut [6] from 9 to 15 (fun v wx => TwoRel W.heap.size n m l k W v wx)
  case first =>
    rename_i hR hM
    go_region_held3 (fun w' => w'.cell? ⟨w.heap.size, 1, none⟩ = some (.slice a n c) ∧ w'.cell? ⟨w.heap.size + 1, 1, none⟩ = some (.slice b m d))
      (first | go_keep | exact ⟨xC0, xC1⟩ | exact ⟨xA0, xA1⟩)
      (first
        | (refine step_copy _ (by rfl) (.tmp 9) (.tmp 11) _ (by rfl) 76 i0 _ 2 16 Try.underlying34 hi hz0 hz1 hz2 rfl (by omega) _ (by rfl) (by first | (refine alloc_at ?_; simp; done) | (refine alloc_past (alloc_at ?_) ?_ <;> (try simp) <;> (try omega); done)) W W.heap.size (by simp) (by repeat (first | exact Below.refl _ _ | refine Below.drew ?_ | refine Below.alloc ?_ (by simp) _)) a n c (fasCells l) (by rfl) HL1.out HS1.out (fasCells_one l) (by unfold maxLen; omega) (by omega) ?_
           intro g1 cap1 wA ownA belA szA extA
           have xA0 : wA.cell? ⟨w.heap.size, 1, none⟩ = some (.slice a n c) := (belA.cell (p := ⟨_, 1, none⟩) hq0).trans c1
           have xA1 : wA.cell? ⟨w.heap.size + 1, 1, none⟩ = some (.slice b m d) := (belA.cell (p := ⟨_, 1, none⟩) hq1).trans c2)
        | (refine step_more _ (by rfl) (.tmp 12) (.tmp 14) _ (by rfl) 76 i0 _ 2 16 Try.underlying34 hi hz0 hz1 hz2 rfl (by omega) g1 cap1 n (fasCells l) (by rfl) W W.heap.size ownA belA b m d (fasCells k) (by rfl) HL2.out HS2.out (fasCells_one k) (by unfold maxLen; omega) (by omega) ?_
           intro gC capC wC ownC belC
           have xC0 : wC.cell? ⟨w.heap.size, 1, none⟩ = some (.slice a n c) := (belC.cell (p := ⟨_, 1, none⟩) hq0).trans c1
           have xC1 : wC.cell? ⟨w.heap.size + 1, 1, none⟩ = some (.slice b m d) := (belC.cell (p := ⟨_, 1, none⟩) hq1).trans c2))
    all_goals
      refine hM _ _ (Met.intro (hR _ _ ?_))
      (repeat apply Exists.intro)
      exact ⟨⟨_, _, rfl, Lib.hid ownC, Lib.hid belC⟩, rfl⟩
  case rest =>
    obtain ⟨g, cap, rfl, HO, HB2⟩ := hcut
    obtain ⟨N, hN⟩ : ∃ N, N = n + m := ⟨_, rfl⟩
    obtain ⟨L, hL⟩ : ∃ L, L = l ++ k := ⟨_, rfl⟩
    have hNL : N = L.length := by rw [hN, hL, List.length_append, HN.out, HK.out]
    have ho := HO.out
    rw [← fasCells_app, ← hL, ← hN] at ho
    rw [← hN] at hm ⊢
    have hcells : ∀ i, i < N → wc.cell? ⟨g, i * 2, none⟩ = some (.int .i64 (L.getD i fa0).1) := fun i hi => by
      have h := @World.ownsRow.cells _ _ _ _ _ _ _ ho g rfl _ _ (fasCells_get L i (by omega)).1
      rwa [add_none] at h
    have hgl := own_some_lt ho
    have HLL := Lib.hid hL
    have HNN := Lib.hid hN
    have HBW := Lib.hid (HB.out.trans (HB2.out.mono HB.out.size))
    have HNL := Lib.hid hNL
    have HCL := Lib.hid hcells
    have hglt : g < wc.heap.size := hgl.2
    have bN : (N : Int) ≤ 100000 := by omega
    obtain ⟨j0, hj, hy0, hy1, hy2⟩ := info_parts Try.infoInt
    clear hN hL hNL ho HO hcells hgl HB2 HB HS1 HS2 HX HY HW HL1 HL2 c1 c2 hq0 hq1 HSZ HN HK b1 b2 hi hz0 hz1 hz2
    go_wp2
    go_loopw [5, 7] (fun ov iv wr => VarsRel N L wc ov iv wr) (fun _ iv _ => N - (intOf iv).toNat)
    case atStart => exact ⟨0, [], Nat.zero_le _, rfl, Lib.hid (World.ownsRow_nil _ _ _ _), Lib.hid Vars.nil, Lib.hid (Nat.le_refl _), Lib.hid (Below.refl _ _)⟩
    case round =>
      obtain ⟨i, o, hi, rfl, HOW, HV, HLE, HBR⟩ := hrel
      by_cases hlt : i < N
      · have hil : i < L.length := by rw [← HNL.out]; exact hlt
        obtain ⟨x, hx⟩ : ∃ x, x = (L.getD i fa0).1 := ⟨_, rfl⟩
        have hc0 := (HBR.out.cell (p := ⟨g, i * 2, none⟩) hglt).trans (HCL.out i hlt)
        rw [← hx] at hc0
        have HTK := Lib.hid (show L.take (i + 1) = L.take i ++ [L.getD i fa0] by rw [List.take_succ_eq_append_getElem hil]; simp [List.getD_eq_getElem?_getD, hil])
        have HXX := Lib.hid hx
        have h0 : (0 : Int) ≤ (i : Int) := Int.natCast_nonneg _
        have h1 : (i : Int) < (N : Int) := by omega
        have hgr : g < wr.heap.size := Nat.lt_of_lt_of_le hglt HBR.out.size
        have HC0 := Lib.hid hc0
        have hon : ∃ oa oc, u5 = .slice oa o.length oc ∧ ((oa = none ∧ o.length = 0 ∧ oc = 0) ∨ ∃ q, oa = some ⟨q, 0, none⟩ ∧ q < wr.heap.size ∧ wc.heap.size ≤ q ∧ o.length ≤ oc ∧ oc ≤ maxLen ∧ ∀ j, j < o.length → wr.cell? ⟨q, j, none⟩ = some (.int .i64 (o.getD j 0))) := by
          have h := HOW.out
          have hc := @World.ownsRow.cells _ _ _ _ _ _ _ h
          rcases h.2 with ⟨rfl, h0⟩ | ⟨q, oc, cur, rfl, hB, hg, hn, hr⟩
          · exact ⟨none, 0, by rw [h0], .inl ⟨rfl, h0, rfl⟩⟩
          · refine ⟨_, oc, rfl, .inr ⟨q, rfl, (Array.getElem?_eq_some_iff.1 hg).1, hB, hn, hr.1, fun j hj => ?_⟩⟩
            have := hc (g := q) rfl j _ (intCells_get o j hj)
            rwa [add_none] at this
        obtain ⟨oa, oc, rfl, hoa⟩ := hon
        obtain ⟨on, hon⟩ : ∃ on, on = o.length := ⟨_, rfl⟩
        rw [← hon] at hoa HOW HLE ⊢
        have hle := HLE.out
        have bo : (on : Int) ≤ 100000 := by omega
        have HON := Lib.hid hon
        have HOA := Lib.hid hoa
        clear hx hc0 hil hon hoa hle
        obtain ⟨wo, rfl⟩ : ∃ wo : World, wo = wr := ⟨_, rfl⟩
        go_wp2
        go_loopw [8] (fun kv wx => ∃ j : Nat, j ≤ on ∧ kv = .int .i64 j ∧ Hid (∀ i, i < j → o.getD i 0 < x) ∧ Hid (Below wo.heap.size wo wx)) (fun kv _ => on - (intOf kv).toNat)
        case atStart => exact ⟨0, Nat.zero_le _, rfl, Lib.hid fun i h => by omega, Lib.hid (Below.refl _ _)⟩
        case round =>
          obtain ⟨j, hj1, rfl, HLT, HBX⟩ := hrel
          have e2 := (HBX.out.cell (p := ⟨g, i * 2, none⟩) hgr).trans HC0.out
          have hgx : g < wr.heap.size := Nat.lt_of_lt_of_le hgr HBX.out.size
          have k0 : (0 : Int) ≤ (j : Int) := Int.natCast_nonneg _
          by_cases hj2 : j < on
          · rcases HOA.out with ⟨_, h0o, _⟩ | ⟨q, rfl, hq, hwq, hcap, hcm, hcell⟩
            · omega
            · have e1 := (HBX.out.cell (p := ⟨q, j, none⟩) hq).trans (hcell j hj2)
              have hqx : q < wr.heap.size := Nat.lt_of_lt_of_le hq HBX.out.size
              obtain ⟨y, hy⟩ : ∃ y, y = o.getD j 0 := ⟨_, rfl⟩
              rw [← hy] at e1
              have HY := Lib.hid hy
              have HCE := Lib.hid hcell
              have k1 : decide ((j : Int) < (on : Int)) = true := decide_eq_true (by omega)
              have k2 : (j : Int) < (on : Int) := by omega
              clear hy hcell
              by_cases hyx : y < x
              · have k3 : decide (y < x) = true := decide_eq_true hyx
                have HYX := Lib.hid hyx
                clear hyx
                go_wp2
                go_quiet (fail)
                go_wp2
                go_roundw
                case rel =>
                  refine ⟨j + 1, by omega, by go_num, Lib.hid fun i hi => ?_, Lib.hid ⟨HBX.out.os, HBX.out.tape, HBX.out.output, HBX.out.size, HBX.out.block⟩⟩
                  by_cases e : i = j
                  · rw [e, ← HY.out]; exact HYX.out
                  · exact HLT.out i (by omega)
                case measure => simp [intOf]; omega
              · have k3 : decide (y < x) = false := decide_eq_false hyx
                have k4 : ((j : Int) == (on : Int)) = false := by rw [beq_eq_false_iff_ne]; omega
                by_cases hye : y = x
                · have k5 : (y != x) = false := by rw [hye]; simp
                  have HYE := Lib.hid hye
                  clear hyx hye
                  go_wp2
                  go_quiet (fail)
                  go_wp2
                  go_quiet (fail)
                  go_wp2
                  refine ⟨⟨i + 1, o, by omega, by go_num, Lib.hid ?_, Lib.hid ?_, Lib.hid (by rw [← HON.out]; have := HLE.out; omega), Lib.hid ?_⟩, by simp [intOf]; omega⟩
                  · rw [← HON.out]; exact own_block HOW.out fun g' hg' => (HBX.out.block g' (own_lt HOW.out hg')).trans rfl
                  · rw [HTK.out]; exact HV.out.there (j := j) (by rw [← HON.out]; exact hj2) (by rw [← HY.out, HYE.out, HXX.out])
                  · exact HBR.out.trans ((below_dr HBX.out _).mono HBR.out.size)
                · have k5 : (y != x) = true := by simp [hye]
                  have HGT := Lib.hid (show j < o.length → (L.getD i fa0).1 < o.getD j 0 from fun _ => by rw [← HY.out, ← HXX.out]; omega)
                  have hjc : oc ≠ j := by omega
                  clear hyx hye
                  go_wp2
                  go_quiet (fail)
                  go_wp2
                  go_quiet (fail)
                  go_upto_region 10 with fail
                  have hjle : j ≤ on := by omega
                  rename_i nqa
                  obtain ⟨wz, hwz⟩ : ∃ wz : World, wz = (wr.drewN nqa).drewN nq := ⟨_, rfl⟩
                  rw [← hwz]
                  have hbz : Below wo.heap.size wo wz := by rw [hwz]; exact below_dr (below_dr HBX.out _) _
                  have e3 : wz.cell? ⟨g, i * 2, none⟩ = some (.int .i64 x) := (hbz.cell (p := ⟨g, i * 2, none⟩) hgr).trans HC0.out
                  have hgz : g < wz.heap.size := Nat.lt_of_lt_of_le hgr hbz.size
                  have HBZ := Lib.hid hbz
                  have HSA := Lib.hid (ins_srcA (j := j) hq HCE.out HON.out hjle hbz)
                  have HSD := Lib.hid (ins_srcD (j := j) hq HCE.out HON.out hjle hbz (p := j) (m := on - j) (fun _ => rfl) (by omega))
                  have HLA := Lib.hid (ins_lenA (o := o) (j := j) HON.out hjle)
                  have HLD := Lib.hid (ins_lenD (o := o) (j := j) (m := on - j) HON.out (by omega))
                  have bq1 : j ≤ 100000 := by omega
                  have bq2 : on - j ≤ 100000 := by omega
                  have bq3 : j + 1 + (on - j) ≤ 100001 := by omega
                  have kj1 : ¬ (j : Int) < 0 := by omega
                  have kj2 : (j : Int) ≤ (oc : Int) := by omega
                  have kj3 : (j : Int) ≤ (on : Int) := by omega
                  clear hwz hbz e2 hgx
                  go_region_held3 (fun w' => w'.cell? ⟨g, i * 2, none⟩ = some (.int .i64 x))
                    (first | go_keep | exact xD0 | exact xC0 | exact xA0)
                    (first
                      | (refine step_copy _ (by rfl) (.tmp 56) (.tmp 59) _ (by rfl) 3 j0 _ 1 8 Try.underlying78 hj hy0 hy1 hy2 rfl (by omega) _ (by rfl) (by first | (refine alloc_at ?_; simp; done) | (refine alloc_past (alloc_at ?_) ?_ <;> (try simp) <;> (try omega); done)) wz wz.heap.size (by simp) (by repeat (first | exact Below.refl _ _ | refine Below.drew ?_ | refine Below.alloc ?_ (by simp) _)) (some ⟨q, 0, none⟩) j _ (intCells (o.take j)) (by rfl) HLA.out HSA.out (intCells_one _) (by unfold maxLen; omega) (by omega) ?_
                         intro g1 cap1 wA ownA belA szA extA
                         have xA0 : wA.cell? ⟨g, i * 2, none⟩ = some (.int .i64 x) := (belA.cell (p := ⟨g, i * 2, none⟩) hgz).trans e3)
                      | (refine step_snoc _ (by rfl) (.tmp 60) (.tmp 66) _ (by rfl) 3 j0 _ 1 8 Try.underlying78 hj hy0 hy1 hy2 rfl (by omega) g1 cap1 j (intCells (o.take j)) (by rfl) wz wz.heap.size (by first | exact ownA | exact ownA.alloc _) (by first | exact belA | exact belA.alloc belA.size _) _ 1 [.int .i64 x] (by rfl) (by rfl) (by first | (refine alloc_at ?_; simp; done) | (refine (extA _ ?_ ?_).trans (alloc_at ?_) <;> (try simp) <;> (try omega); done) | (refine (extA _ ?_ ?_).trans (alloc_past (alloc_at ?_) ?_) <;> (try simp) <;> (try omega); done)) (by simp [Value.oneCell']) (by unfold maxLen; omega) (by omega) ?_
                         intro gC capC wC ownC belC
                         have xC0 : wC.cell? ⟨g, i * 2, none⟩ = some (.int .i64 x) := (belC.cell (p := ⟨g, i * 2, none⟩) hgz).trans e3)
                      | (refine step_more _ (by rfl) (.tmp 67) (.tmp 70) _ (by rfl) 3 j0 _ 1 8 Try.underlying78 hj hy0 hy1 hy2 rfl (by omega) gC capC (j + 1) (intCells (o.take j) ++ [.int .i64 x]) (by rfl) wz wz.heap.size ownC belC (some ⟨q, j, none⟩) (on - j) _ (intCells (o.drop j)) (by rfl) HLD.out HSD.out (intCells_one _) (by unfold maxLen; omega) (by omega) ?_
                         intro gD capD wD ownD belD
                         have xD0 : wD.cell? ⟨g, i * 2, none⟩ = some (.int .i64 x) := (belD.cell (p := ⟨g, i * 2, none⟩) hgz).trans e3))
                  all_goals
                    have HO9 := Lib.hid ownD
                    have HB9 := Lib.hid belD
                    clear ownD belD
                    go_wp2
                    exact ins_end (i := i) (j := j) (on := on) hlt HON.out HLE.out HV.out HTK.out HXX.out HLT.out HGT.out hjle HBR.out HBZ.out HO9.out HB9.out (by simp [intCells]) (by go_num)
          · have hjo : j = on := by omega
            subst hjo
            have k1 : decide ((j : Int) < (j : Int)) = false := decide_eq_false (by omega)
            have k2 : ¬ (j : Int) < (j : Int) := by omega
            have k4 : ((j : Int) == (j : Int)) = true := by simp
            have HGT := Lib.hid (show j < o.length → (L.getD i fa0).1 < o.getD j 0 from fun h => by rw [← HON.out] at h; omega)
            have HON2 := Lib.hid HON.out
            rcases HOA.out with ⟨rfl, h0o, rfl⟩ | ⟨q, rfl, hq, hwq, hcap, hcm, hcell⟩
            · subst h0o
              go_wp2
              go_quiet (fail)
              go_wp2
              go_quiet (fail)
              go_upto_region 10 with fail
              rename_i nqa
              obtain ⟨wz, hwz⟩ : ∃ wz : World, wz = (wr.drewN nqa).drewN nq := ⟨_, rfl⟩
              rw [← hwz]
              have hbz : Below wo.heap.size wo wz := by rw [hwz]; exact below_dr (below_dr HBX.out _) _
              have e3 : wz.cell? ⟨g, i * 2, none⟩ = some (.int .i64 x) := (hbz.cell (p := ⟨g, i * 2, none⟩) hgr).trans HC0.out
              have hgz : g < wz.heap.size := Nat.lt_of_lt_of_le hgr hbz.size
              have HBZ := Lib.hid hbz
              clear hwz hbz e2 hgx
              go_region_held3 (fun w' => w'.cell? ⟨g, i * 2, none⟩ = some (.int .i64 x))
                  (first | go_keep | exact xD0 | exact xC0 | exact xA0)
                  (first
                    | (refine step_copy _ (by rfl) (.tmp 56) (.tmp 59) _ (by rfl) 3 j0 _ 1 8 Try.underlying78 hj hy0 hy1 hy2 rfl (by omega) _ (by rfl) (by first | (refine alloc_at ?_; simp; done) | (refine alloc_past (alloc_at ?_) ?_ <;> (try simp) <;> (try omega); done)) wz wz.heap.size (by simp) (by repeat (first | exact Below.refl _ _ | refine Below.drew ?_ | refine Below.alloc ?_ (by simp) _)) none 0 _ [] (by rfl) rfl (fun _ _ => .inl ⟨rfl, rfl⟩) (by simp) (by unfold maxLen; omega) (by omega) ?_
                       intro g1 cap1 wA ownA belA szA extA
                       have xA0 : wA.cell? ⟨g, i * 2, none⟩ = some (.int .i64 x) := (belA.cell (p := ⟨g, i * 2, none⟩) hgz).trans e3)
                    | (refine step_snoc _ (by rfl) (.tmp 60) (.tmp 66) _ (by rfl) 3 j0 _ 1 8 Try.underlying78 hj hy0 hy1 hy2 rfl (by omega) g1 cap1 0 [] (by rfl) wz wz.heap.size (by first | exact ownA | exact ownA.alloc _) (by first | exact belA | exact belA.alloc belA.size _) _ 1 [.int .i64 x] (by rfl) (by rfl) (by first | (refine alloc_at ?_; simp; done) | (refine (extA _ ?_ ?_).trans (alloc_at ?_) <;> (try simp) <;> (try omega); done) | (refine (extA _ ?_ ?_).trans (alloc_past (alloc_at ?_) ?_) <;> (try simp) <;> (try omega); done)) (by simp [Value.oneCell']) (by unfold maxLen; omega) (by omega) ?_
                       intro gC capC wC ownC belC
                       have xC0 : wC.cell? ⟨g, i * 2, none⟩ = some (.int .i64 x) := (belC.cell (p := ⟨g, i * 2, none⟩) hgz).trans e3)
                    | (refine step_more _ (by rfl) (.tmp 67) (.tmp 70) _ (by rfl) 3 j0 _ 1 8 Try.underlying78 hj hy0 hy1 hy2 rfl (by omega) gC capC (0 + 1) ([] ++ [.int .i64 x]) (by rfl) wz wz.heap.size ownC belC none 0 _ [] (by rfl) rfl (fun _ _ => .inl ⟨rfl, rfl⟩) (by simp) (by unfold maxLen; omega) (by omega) ?_
                       intro gD capD wD ownD belD
                       have xD0 : wD.cell? ⟨g, i * 2, none⟩ = some (.int .i64 x) := (belD.cell (p := ⟨g, i * 2, none⟩) hgz).trans e3))
              all_goals
                have HO9 := Lib.hid ownD
                have HB9 := Lib.hid belD
                clear ownD belD
                go_wp2
                exact ins_end (i := i) (j := 0) (on := 0) hlt HON.out HLE.out HV.out HTK.out HXX.out HLT.out HGT.out (Nat.le_refl _) HBR.out HBZ.out HO9.out HB9.out (by rw [List.length_eq_zero_iff.1 HON.out.symm]; rfl) (by go_num)
            · have hjle : j ≤ j := Nat.le_refl _
              have HCE := Lib.hid hcell
              have hqx : q < wr.heap.size := Nat.lt_of_lt_of_le hq HBX.out.size
              clear hcell
              by_cases hjc : oc = j
              · subst hjc
                go_wp2
                go_quiet (fail)
                go_wp2
                go_quiet (fail)
                go_upto_region 10 with fail
                rename_i nqa
                obtain ⟨wz, hwz⟩ : ∃ wz : World, wz = (wr.drewN nqa).drewN nq := ⟨_, rfl⟩
                rw [← hwz]
                have hbz : Below wo.heap.size wo wz := by rw [hwz]; exact below_dr (below_dr HBX.out _) _
                have e3 : wz.cell? ⟨g, i * 2, none⟩ = some (.int .i64 x) := (hbz.cell (p := ⟨g, i * 2, none⟩) hgr).trans HC0.out
                have hgz : g < wz.heap.size := Nat.lt_of_lt_of_le hgr hbz.size
                have HBZ := Lib.hid hbz
                have HSA := Lib.hid (ins_srcA (j := oc) hq HCE.out HON.out hjle hbz)
                have HSD := Lib.hid (ins_srcD (j := oc) hq HCE.out HON.out hjle hbz (p := 0) (m := 0) (fun h => by omega) (by omega))
                have HLA := Lib.hid (ins_lenA (o := o) (j := oc) HON.out hjle)
                have HLD := Lib.hid (ins_lenD (o := o) (j := oc) (m := 0) HON.out (by omega))
                have bq1 : oc ≤ 100000 := by omega
                have bq2 : 0 ≤ 100000 := by omega
                have bq3 : oc + 1 + (0) ≤ 100001 := by omega
                have kj1 : ¬ (oc : Int) < 0 := by omega
                have kj2 : (oc : Int) ≤ (oc : Int) := by omega
                have kj3 : (oc : Int) ≤ (oc : Int) := by omega
                clear hwz hbz e2 hgx
                go_region_held3 (fun w' => w'.cell? ⟨g, i * 2, none⟩ = some (.int .i64 x))
                  (first | go_keep | exact xD0 | exact xC0 | exact xA0)
                  (first
                    | (refine step_copy _ (by rfl) (.tmp 56) (.tmp 59) _ (by rfl) 3 j0 _ 1 8 Try.underlying78 hj hy0 hy1 hy2 rfl (by omega) _ (by rfl) (by first | (refine alloc_at ?_; simp; done) | (refine alloc_past (alloc_at ?_) ?_ <;> (try simp) <;> (try omega); done)) wz wz.heap.size (by simp) (by repeat (first | exact Below.refl _ _ | refine Below.drew ?_ | refine Below.alloc ?_ (by simp) _)) (some ⟨q, 0, none⟩) oc _ (intCells (o.take oc)) (by rfl) HLA.out HSA.out (intCells_one _) (by unfold maxLen; omega) (by omega) ?_
                       intro g1 cap1 wA ownA belA szA extA
                       have xA0 : wA.cell? ⟨g, i * 2, none⟩ = some (.int .i64 x) := (belA.cell (p := ⟨g, i * 2, none⟩) hgz).trans e3)
                    | (refine step_snoc _ (by rfl) (.tmp 60) (.tmp 66) _ (by rfl) 3 j0 _ 1 8 Try.underlying78 hj hy0 hy1 hy2 rfl (by omega) g1 cap1 oc (intCells (o.take oc)) (by rfl) wz wz.heap.size (by first | exact ownA | exact ownA.alloc _) (by first | exact belA | exact belA.alloc belA.size _) _ 1 [.int .i64 x] (by rfl) (by rfl) (by first | (refine alloc_at ?_; simp; done) | (refine (extA _ ?_ ?_).trans (alloc_at ?_) <;> (try simp) <;> (try omega); done) | (refine (extA _ ?_ ?_).trans (alloc_past (alloc_at ?_) ?_) <;> (try simp) <;> (try omega); done)) (by simp [Value.oneCell']) (by unfold maxLen; omega) (by omega) ?_
                       intro gC capC wC ownC belC
                       have xC0 : wC.cell? ⟨g, i * 2, none⟩ = some (.int .i64 x) := (belC.cell (p := ⟨g, i * 2, none⟩) hgz).trans e3)
                    | (refine step_more _ (by rfl) (.tmp 67) (.tmp 70) _ (by rfl) 3 j0 _ 1 8 Try.underlying78 hj hy0 hy1 hy2 rfl (by omega) gC capC (oc + 1) (intCells (o.take oc) ++ [.int .i64 x]) (by rfl) wz wz.heap.size ownC belC (some ⟨q, 0, none⟩) (0) _ (intCells (o.drop oc)) (by rfl) HLD.out HSD.out (intCells_one _) (by unfold maxLen; omega) (by omega) ?_
                       intro gD capD wD ownD belD
                       have xD0 : wD.cell? ⟨g, i * 2, none⟩ = some (.int .i64 x) := (belD.cell (p := ⟨g, i * 2, none⟩) hgz).trans e3))
                all_goals
                  have HO9 := Lib.hid ownD
                  have HB9 := Lib.hid belD
                  clear ownD belD
                  go_wp2
                  exact ins_end (i := i) (j := oc) (on := oc) hlt HON.out HLE.out HV.out HTK.out HXX.out HLT.out HGT.out hjle HBR.out HBZ.out HO9.out HB9.out (by simp [intCells]) (by go_num)
              · go_wp2
                go_quiet (fail)
                go_wp2
                go_quiet (fail)
                go_upto_region 10 with fail
                rename_i nqa
                obtain ⟨wz, hwz⟩ : ∃ wz : World, wz = (wr.drewN nqa).drewN nq := ⟨_, rfl⟩
                rw [← hwz]
                have hbz : Below wo.heap.size wo wz := by rw [hwz]; exact below_dr (below_dr HBX.out _) _
                have e3 : wz.cell? ⟨g, i * 2, none⟩ = some (.int .i64 x) := (hbz.cell (p := ⟨g, i * 2, none⟩) hgr).trans HC0.out
                have hgz : g < wz.heap.size := Nat.lt_of_lt_of_le hgr hbz.size
                have HBZ := Lib.hid hbz
                have HSA := Lib.hid (ins_srcA (j := j) hq HCE.out HON.out hjle hbz)
                have HSD := Lib.hid (ins_srcD (j := j) hq HCE.out HON.out hjle hbz (p := j) (m := 0) (fun _ => rfl) (by omega))
                have HLA := Lib.hid (ins_lenA (o := o) (j := j) HON.out hjle)
                have HLD := Lib.hid (ins_lenD (o := o) (j := j) (m := 0) HON.out (by omega))
                have bq1 : j ≤ 100000 := by omega
                have bq2 : 0 ≤ 100000 := by omega
                have bq3 : j + 1 + (0) ≤ 100001 := by omega
                have kj1 : ¬ (j : Int) < 0 := by omega
                have kj2 : (j : Int) ≤ (oc : Int) := by omega
                have kj3 : (j : Int) ≤ (j : Int) := by omega
                clear hwz hbz e2 hgx
                go_region_held3 (fun w' => w'.cell? ⟨g, i * 2, none⟩ = some (.int .i64 x))
                  (first | go_keep | exact xD0 | exact xC0 | exact xA0)
                  (first
                    | (refine step_copy _ (by rfl) (.tmp 56) (.tmp 59) _ (by rfl) 3 j0 _ 1 8 Try.underlying78 hj hy0 hy1 hy2 rfl (by omega) _ (by rfl) (by first | (refine alloc_at ?_; simp; done) | (refine alloc_past (alloc_at ?_) ?_ <;> (try simp) <;> (try omega); done)) wz wz.heap.size (by simp) (by repeat (first | exact Below.refl _ _ | refine Below.drew ?_ | refine Below.alloc ?_ (by simp) _)) (some ⟨q, 0, none⟩) j _ (intCells (o.take j)) (by rfl) HLA.out HSA.out (intCells_one _) (by unfold maxLen; omega) (by omega) ?_
                       intro g1 cap1 wA ownA belA szA extA
                       have xA0 : wA.cell? ⟨g, i * 2, none⟩ = some (.int .i64 x) := (belA.cell (p := ⟨g, i * 2, none⟩) hgz).trans e3)
                    | (refine step_snoc _ (by rfl) (.tmp 60) (.tmp 66) _ (by rfl) 3 j0 _ 1 8 Try.underlying78 hj hy0 hy1 hy2 rfl (by omega) g1 cap1 j (intCells (o.take j)) (by rfl) wz wz.heap.size (by first | exact ownA | exact ownA.alloc _) (by first | exact belA | exact belA.alloc belA.size _) _ 1 [.int .i64 x] (by rfl) (by rfl) (by first | (refine alloc_at ?_; simp; done) | (refine (extA _ ?_ ?_).trans (alloc_at ?_) <;> (try simp) <;> (try omega); done) | (refine (extA _ ?_ ?_).trans (alloc_past (alloc_at ?_) ?_) <;> (try simp) <;> (try omega); done)) (by simp [Value.oneCell']) (by unfold maxLen; omega) (by omega) ?_
                       intro gC capC wC ownC belC
                       have xC0 : wC.cell? ⟨g, i * 2, none⟩ = some (.int .i64 x) := (belC.cell (p := ⟨g, i * 2, none⟩) hgz).trans e3)
                    | (refine step_more _ (by rfl) (.tmp 67) (.tmp 70) _ (by rfl) 3 j0 _ 1 8 Try.underlying78 hj hy0 hy1 hy2 rfl (by omega) gC capC (j + 1) (intCells (o.take j) ++ [.int .i64 x]) (by rfl) wz wz.heap.size ownC belC (some ⟨q, j, none⟩) (0) _ (intCells (o.drop j)) (by rfl) HLD.out HSD.out (intCells_one _) (by unfold maxLen; omega) (by omega) ?_
                       intro gD capD wD ownD belD
                       have xD0 : wD.cell? ⟨g, i * 2, none⟩ = some (.int .i64 x) := (belD.cell (p := ⟨g, i * 2, none⟩) hgz).trans e3))
                all_goals
                  have HO9 := Lib.hid ownD
                  have HB9 := Lib.hid belD
                  clear ownD belD
                  go_wp2
                  exact ins_end (i := i) (j := j) (on := j) hlt HON.out HLE.out HV.out HTK.out HXX.out HLT.out HGT.out hjle HBR.out HBZ.out HO9.out HB9.out (by simp [intCells]) (by go_num)
      · have hin : i = N := by omega
        have HVV := Lib.hid (show Vars o (l ++ k) by have h := HV.out; rw [List.take_of_length_le (by rw [← HNL.out]; omega), HLL.out] at h; exact h)
        have HLO := Lib.hid (show o.length ≤ n + m by rw [← HNN.out]; have := HLE.out; omega)
        have HOO := Lib.hid (own_base HOW.out HBW.out.size)
        clear hin
        go_wp2
        go_ret
        exact ⟨⟨_, o, rfl, HOO.out, HVV.out, HLO.out⟩, HBW.out.trans (HBR.out.mono HBW.out.size)⟩
end Go.Proofs.Ytgjkobkcmgliaaa
