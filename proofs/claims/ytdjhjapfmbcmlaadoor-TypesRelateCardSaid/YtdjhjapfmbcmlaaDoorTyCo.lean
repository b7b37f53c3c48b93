import Derived.Test.YtdjhjapfmbcmlaaDoorTyCl
import Derived.Lib.AppendZerosOnto
import Derived.OwnWalk
import Derived.LoopN
namespace Go.Proofs.YtdjhjapfmbcmlaaDoor
open Go.RowKit

set_option maxRecDepth 100000 in
set_option maxHeartbeats 8000000 in
theorem grow_nil (n : Nat) (w : World) (h0 : 0 < n) (hb : n ≤ 400000) :
    Calls Tryd.prog 57 #[.slice none 0 0, .int .i64 n] w fun e w' => (∃ g cap, e = .returned (.slice (some ⟨g, 0, none⟩) 0 cap) ∧ n ≤ cap ∧ w'.ownsRow w.heap.size 24 6 (.slice (some ⟨g, 0, none⟩) 0 cap) 0 []) ∧ Below w.heap.size w w' := by
  obtain ⟨i0, hi, hz0, hz1, hz2⟩ := info_parts Tryd.infoTy
  have h1 : ¬ ((n : Int) < 0) := by omega
  have h4 : (0 : Int) < (n : Int) := by omega
  have hold : (Builtin.firstCells i0.size 0 (.slice none 0 0)).run Tryd.prog w.drew = .ok (([] : List Value).toArray) w.drew := run_firstCells_none w.drew i0.size 0 0 0
  have hrz : ∀ ty, (Builtin.append_ #[22, 3] ty #[.slice none 0 0, .int .i64 (n : Int)]).run Tryd.prog w =
      .ok (.slice (some ⟨w.heap.size, 0, none⟩) n (grownCap w n 0 24)) (w.drew.alloc (.cells (([] : List Value).toArray ++ Builtin.zeroCells (Value.agg #[.bool false, .int .i64 0, .int .i64 0, .slice none 0 0, .int .i64 0, .slice none 0 0]).cells n ++ Builtin.zeroCells (Value.agg #[.bool false, .int .i64 0, .int .i64 0, .slice none 0 0, .int .i64 0, .slice none 0 0]).cells (grownCap w n 0 24 - n)) 24)) := fun ty => by
    have h := Lib.run_append_grow_zeros w 22 3 ty 24 i0 _ .i64 .i64 Tryd.underlying22 Tryd.underlying3 hi hz0 none 0 0 [] hold n h0 (by omega) (by omega) (by omega)
      (by rw [hz2]; omega) (by rw [Nat.zero_add]; exact growslice_fits h0 (by rw [hz2]; omega))
    rw [Nat.zero_add] at h
    exact h
  have hGn : n ≤ grownCap w n 0 24 := grownCap_ge w _ _ _
  have hG63 : grownCap w n 0 24 ≤ maxLen := grownCap_le_maxLen w n 0 24 (by unfold maxLen; omega)
  have hsz : ∀ k, (Builtin.zeroCells (Value.agg #[.bool false, .int .i64 0, .int .i64 0, .slice none 0 0, .int .i64 0, .slice none 0 0]).cells k).size = k * 6 := fun k => by
    unfold Builtin.zeroCells; rw [Array.size_map, Array.size_range]; rfl
  obtain ⟨G, hG⟩ : ∃ G, G = grownCap w n 0 24 := ⟨_, rfl⟩
  rw [← hG] at hrz hGn hG63
  obtain ⟨cur, hcur⟩ : ∃ cur, cur = ([] : List Value).toArray ++ Builtin.zeroCells (Value.agg #[.bool false, .int .i64 0, .int .i64 0, .slice none 0 0, .int .i64 0, .slice none 0 0]).cells n ++ Builtin.zeroCells (Value.agg #[.bool false, .int .i64 0, .int .i64 0, .slice none 0 0, .int .i64 0, .slice none 0 0]).cells (G - n) := ⟨_, rfl⟩
  rw [← hcur] at hrz
  have hcs : cur.size = G * 6 := by rw [hcur]; simp only [Array.size_append, hsz]; simp; omega
  have HO := Lib.hid (World.ownsRow_made (base := w.heap.size) (e := 24) (size := 6) w.drew cur G (Nat.le_refl _) hG63 hcs)
  have HB := Lib.hid (show Below w.heap.size w (w.drew.alloc (.cells cur 24)) from (Below.refl _ _).drew.alloc (Nat.le_refl _) _)
  have HGN := Lib.hid hGn
  have hG2 : (G : Int) ≤ 9223372036854775807 := by unfold maxLen at hG63; omega
  clear hold hG hcur hcs hsz hGn hG63
  go_enter Tryd.func57, Tryd.ntmps57
  go_wp2_with (at_builtin; refine Lib.wpList_append_run _ rfl _ _ _ _ rfl _ _ rfl rfl _ _ (hrz _) ?_)
  go_ret
  have h2 := HB.out
  have h3 := HO.out
  exact ⟨⟨_, G, rfl, HGN.out, by first | exact h3 | simpa using h3⟩, by first | exact h2 | simpa using h2⟩
theorem cells_of {w : World} {N : Nat → Prop} {ad : Option Addr} {l : List Ty} {c : Nat} (h : TyS w (Lo N w) (.slice ad l.length c) l) :
    ∃ rs, RawsOf w (Lo N w) rs l ∧ ∀ a, ad = some a → ∀ j u, (rawsCells rs)[j]? = some u → (a.add j).block < w.heap.size ∧ w.cell? (a.add j) = some u := by
  rcases h.inv with ⟨rfl, _⟩ | ⟨b, off, cap, rs, e, hb, hm, hr, ho⟩
  · exact ⟨[], RawsOf.none _ _, fun a _ j u h => by simp [rawsCells] at h⟩
  · cases e
    exact ⟨rs, ho, fun a e j u h => by cases e; exact ⟨by rw [Addr.add_lit]; exact hb.1, rows6_cell hr j u h⟩⟩
theorem RawsOf.app {w : World} {ok : Nat → Prop} {rs ss : List RawT} {l m : List Ty} (h : RawsOf w ok rs l) (k : RawsOf w ok ss m) : RawsOf w ok (rs ++ ss) (l ++ m) := by
  refine ⟨by rw [List.length_append, List.length_append, h.1, k.1], fun j hj => ?_⟩
  rw [List.length_append] at hj
  by_cases hlt : j < l.length
  · have h1 := h.2 j hlt
    simpa [List.getD_eq_getElem?_getD, List.getElem?_append_left, hlt, h.1] using h1
  · have h1 := k.2 (j - l.length) (by omega)
    have e1 : (rs ++ ss)[j]? = ss[j - l.length]? := by rw [List.getElem?_append_right (by rw [h.1]; omega), h.1]
    have e2 : (l ++ m)[j]? = m[j - l.length]? := List.getElem?_append_right (by omega)
    rw [List.getD_eq_getElem?_getD, List.getD_eq_getElem?_getD] at h1 ⊢
    rw [e1, e2]; exact h1

set_option maxRecDepth 100000 in
set_option maxHeartbeats 16000000 in
theorem concat_two (N : Nat → Prop) (l m : List Ty) (q c : Nat) (a1 a2 : Option Addr) (c1 c2 : Nat) (w : World) (hN : ∀ b, N b → b < w.heap.size) (hq : q < w.heap.size) (h0 : w.cell? ⟨q, 0, none⟩ = some (.slice a1 l.length c1)) (h1 : w.cell? ⟨q, 1, none⟩ = some (.slice a2 m.length c2))
    (hl : TyS w (Lo N w) (.slice a1 l.length c1) l) (hm : TyS w (Lo N w) (.slice a2 m.length c2) m) (hb : l.length ≤ 300000) (hm1 : 0 < m.length) (hm2 : m.length ≤ 1000) (hn1 : a1 = none → c1 = 0) :
    Calls Tryd.prog 40 #[.slice (some ⟨q, 0, none⟩) 2 c] w fun e w' => (∃ v, e = .returned v ∧ TyS w' (Lo N w') v (l ++ m)) ∧ Below w.heap.size w w' := by
  obtain ⟨i0, hi, hz0, hz1, hz2⟩ := info_parts Tryd.infoTy
  obtain ⟨rs, hraw, hcells⟩ := cells_of hl
  obtain ⟨rs2, hraw2, hcells2⟩ := cells_of hm
  have hone := rawsCells_one hraw
  have hone2 := rawsCells_one hraw2
  have hlen := hraw.1
  have hlen2 := hraw2.1
  have hml : m.length ≠ 0 := by omega
  have hln : a1 = none → l.length = 0 ∧ c1 = 0 := fun e => by
    refine ⟨?_, hn1 e⟩
    rcases hl.inv with ⟨rfl, _⟩ | ⟨b, off, cap, rs, e', _⟩
    · rfl
    · rw [e] at e'; cases e'
  have hmn : a2 = none → m.length = 0 ∧ c2 = 0 := fun e => by
    rcases hm.inv with ⟨rfl, _⟩ | ⟨b, off, cap, rs, e', _⟩
    · exact absurd rfl hml
    · rw [e] at e'; cases e'
  obtain ⟨nl, hnl⟩ : ∃ n, n = l.length := ⟨_, rfl⟩
  obtain ⟨nm, hnm⟩ : ∃ n, n = m.length := ⟨_, rfl⟩
  rw [← hnl] at h0 hb hlen hln
  rw [← hnm] at h1 hm1 hm2 hlen2 hmn
  have HRAW := Lib.hid hraw
  have HRAW2 := Lib.hid hraw2
  have HC := Lib.hid hcells
  have HC2 := Lib.hid hcells2
  have HO := Lib.hid hone
  have HO2 := Lib.hid hone2
  have HL := Lib.hid hlen
  have HL2 := Lib.hid hlen2
  have HNL := Lib.hid hnl
  have HNM := Lib.hid hnm
  have HN := Lib.hid hN
  have HBD := Lib.hid (show nl ≤ 300000 ∧ 0 < nm ∧ nm ≤ 1000 from ⟨hb, hm1, hm2⟩)
  have HLN := Lib.hid hln
  have HMN := Lib.hid hmn
  have H0 := Lib.hid h0
  have H1 := Lib.hid h1
  have HQ := Lib.hid hq
  have b1 : (nl : Int) ≤ 300000 := by omega
  have b2 : (nm : Int) ≤ 1000 := by omega
  have b3 : (0 : Int) < nm := by omega
  have b4 : (0 : Int) ≤ nl := by omega
  have b5 : decide ((nl : Int) < 0) = false := decide_eq_false (by omega)
  have b6 : decide ((nl : Int) + (nm : Int) < 0) = false := decide_eq_false (by omega)
  have CG := grow_nil (nl + nm) w (by omega) (by omega)
  rw [show ((nl + nm : Nat) : Int) = (nl : Int) + (nm : Int) by omega] at CG
  have HCG := Lib.hid CG
  clear CG
  clear hraw hraw2 hcells hcells2 hone hone2 hlen hlen2 hnl hnm hN hb hm1 hm2 hln hmn hl hm hn1 hml
  go_enter Tryd.func40, Tryd.ntmps40
  go_wp2
  refine wp_loop_rounds 3 ?_
  rw [rounds_succ]
  go_wp2
  rw [rounds_succ]
  go_wp2
  rw [rounds_succ]
  go_wp2_with fail
  refine HCG.out.mono ?_
  rintro e w2 ⟨⟨g, cap, rfl, hcap, hown⟩, hb2⟩
  have e0 := (hb2.cell (p := ⟨q, 0, none⟩) HQ.out).trans H0.out
  have e1 := (hb2.cell (p := ⟨q, 1, none⟩) HQ.out).trans H1.out
  have hgl := hown.lt g rfl
  have HGL := Lib.hid hgl
  have HB2 := Lib.hid hb2
  have HOW := Lib.hid hown
  have HCAP := Lib.hid hcap
  clear h0 h1 hgl hb2 hown hcap
  go_wp2
  refine wp_loop_rounds 3 ?_
  rw [rounds_succ]
  go_wp2_with (at_builtin; refine wpList_append_fits_any _ rfl _ _ 22 rfl w.heap.size 24 i0 6 Tryd.underlying22 hi hz1 g 0 cap [] rfl HOW.out a1 nl c1 (rawsCells rs) rfl ?k1 ?k2 ?k3 ?k4 ?k5 ?_)
  case k1 => rw [rawsCells_len, HL.out]
  case k2 => exact HLN.out
  case k3 => exact fun a e j u h => by have := HC.out a e j u h; rw [HB2.out.cell this.1]; exact this.2
  case k4 => exact HO.out
  case k5 => have := HCAP.out; omega
  intro w3 hown3 hgrow3
  have hb3 : Below w.heap.size w w3 := HB2.out.grown hgrow3 HB2.out.size fun k hk => by cases hk; exact HGL.out.1
  have e1' := (hb3.cell (p := ⟨q, 1, none⟩) HQ.out).trans H1.out
  have HB3 := Lib.hid hb3
  have HOW3 := Lib.hid (show w3.ownsRow w.heap.size 24 6 (.slice (some ⟨g, 0, none⟩) nl cap) nl (rawsCells rs) by simpa using hown3)
  clear e0 e1 hown3 hgrow3 hb3
  go_wp2
  rw [rounds_succ]
  go_wp2_with (at_builtin; refine wpList_append_fits_any _ rfl _ _ 22 rfl w.heap.size 24 i0 6 Tryd.underlying22 hi hz1 g nl cap (rawsCells rs) rfl HOW3.out a2 nm c2 (rawsCells rs2) rfl ?r1 ?r2 ?r3 ?r4 ?r5 ?_)
  case r1 => rw [rawsCells_len, HL2.out]
  case r2 => exact HMN.out
  case r3 => exact fun a e j u h => by have := HC2.out a e j u h; rw [HB3.out.cell this.1]; exact this.2
  case r4 => exact HO2.out
  case r5 => exact HCAP.out
  intro w4 hown4 hgrow4
  have hb4 : Below w.heap.size w w4 := HB3.out.grown hgrow4 HB3.out.size fun k hk => by cases hk; exact HGL.out.1
  have hts : TyS w4 (Lo N w4) (.slice (some ⟨g, 0, none⟩) (nl + nm) cap) (l ++ m) := by
    have h := RawsOf.app HRAW.out HRAW2.out
    have hl2 := h.1
    have hle : (rs ++ rs2).length = nl + nm := by rw [List.length_append, HL.out, HL2.out]
    have ho : w4.ownsRow w.heap.size 24 6 (.slice (some ⟨g, 0, none⟩) (nl + nm) cap) (rs ++ rs2).length (rawsCells (rs ++ rs2)) := by rw [hle, rawsCells_app]; exact hown4
    exact TyS.of_own ho (by rw [← hl2, hle]; have := HBD.out; unfold maxLen; omega) (fun k hk => by cases hk; exact ⟨(hown4.lt g rfl).2, fun h => by have := HN.out g h; have := HGL.out.1; omega⟩) (h.mono (fun _ h => ⟨Nat.lt_of_lt_of_le h.1 hb4.size, h.2⟩) fun _ _ h => hb4.cell (p := ⟨_, _, none⟩) h.1)
  have HT := Lib.hid hts
  have HB4 := Lib.hid hb4
  clear hts hb4 hown4 hgrow4 e1'
  go_wp2
  rw [rounds_succ]
  go_wp2
  go_ret
  exact ⟨⟨_, rfl, HT.out⟩, HB4.out⟩
end Go.Proofs.YtdjhjapfmbcmlaaDoor
