import Derived.Test.YtibhfcnjmilepaaDoorNumU
import Derived.Test.YtibhfcnjmilepaaDoorNumQ
namespace Go.Proofs.YtibhfcnjmilepaaDoor
open Go.RowKit

/-- a block that begins with these digits -/
def Bk (w : World) (g : Nat) (L : List Nat) : Prop := ∃ S : List Value, w.heap[g]? = some (.cells (L.map u32V ++ S).toArray 40 (0, 0))
/-- all but block g is as it was -/
structure Keep (g : Nat) (w w' : World) : Prop where
  os : w'.os = w.os
  tape : w'.tape = w.tape
  output : w'.output = w.output
  size : w'.heap.size = w.heap.size
  block : ∀ k, k ≠ g → w'.heap[k]? = w.heap[k]?
theorem Keep.refl (g : Nat) (w : World) : Keep g w w := ⟨rfl, rfl, rfl, rfl, fun _ _ => rfl⟩
theorem Keep.trans {g : Nat} {u v w : World} (h : Keep g u v) (k : Keep g v w) : Keep g u w :=
  ⟨k.os.trans h.os, k.tape.trans h.tape, k.output.trans h.output, k.size.trans h.size, fun i hi => (k.block i hi).trans (h.block i hi)⟩
theorem Keep.below {g B : Nat} {w w' : World} (h : Keep g w w') (hB : B ≤ g) : Below B w w' := ⟨h.os, h.tape, h.output, Nat.le_of_eq h.size.symm, fun k hk => h.block k (by omega)⟩
theorem Keep.setCell {g : Nat} {u w : World} (h : Keep g u w) (o : Nat) (x : Value) : Keep g u (w.setCell ⟨g, o, none⟩ x) :=
  h.trans ⟨rfl, rfl, rfl, by simp [World.setCell], fun _ h => Below.heap_setCell _ _ _ _ h⟩
theorem Keep.drew {g : Nat} {u w : World} (h : Keep g u w) : Keep g u w.drew := h.trans ⟨rfl, rfl, rfl, rfl, fun _ _ => rfl⟩
theorem Keep.drewN {g : Nat} {u w : World} (h : Keep g u w) (n : Nat) : Keep g u (w.drewN n) := h.trans ⟨rfl, rfl, rfl, rfl, fun _ _ => rfl⟩
theorem Bk.lt {w : World} {g : Nat} {L : List Nat} (h : Bk w g L) : g < w.heap.size := by
  obtain ⟨S, h⟩ := h
  exact (Array.getElem?_eq_some_iff.1 h).1
theorem Bk.cell {w : World} {g : Nat} {L : List Nat} (h : Bk w g L) {k x : Nat} (hk : L[k]? = some x) : w.cell? ⟨g, k, none⟩ = some (u32V x) := by
  obtain ⟨S, h⟩ := h
  have hlt : k < L.length := (List.getElem?_eq_some_iff.1 hk).1
  rw [Lib.cell_of_heap h, List.getElem?_toArray, List.getElem?_append_left (by simpa using hlt), List.getElem?_map, hk]; rfl
theorem Bk.frozen {w : World} {g : Nat} {L : List Nat} (h : Bk w g L) (k : Nat) : w.frozen? ⟨g, k, none⟩ = false := by
  obtain ⟨S, h⟩ := h
  exact Lib.frozen_of_heap h k
theorem Bk.set {w : World} {g : Nat} {L : List Nat} (h : Bk w g L) (k d : Nat) (hk : k < L.length) : Bk (w.setCell ⟨g, k, none⟩ (u32V d)) g (L.set k d) := by
  obtain ⟨S, h⟩ := h
  refine ⟨S, ?_⟩
  simp only [World.setCell, Array.getElem?_modify, h]
  simp [List.map_set, hk]
theorem Bk.keep {w w' : World} {g h : Nat} {L : List Nat} (hb : Bk w h L) (hk : Keep g w w') (hne : h ≠ g) : Bk w' h L := by
  obtain ⟨S, hb⟩ := hb
  exact ⟨S, (hk.block h hne).trans hb⟩
theorem Bk.drew {w : World} {g : Nat} {L : List Nat} (h : Bk w g L) : Bk w.drew g L := h
theorem Bk.drewN {w : World} {g : Nat} {L : List Nat} (h : Bk w g L) (n : Nat) : Bk (w.drewN n) g L := h
theorem Bk.below {w w' : World} {B g : Nat} {L : List Nat} (hb : Bk w g L) (hk : Below B w w') (hg : g < B) : Bk w' g L := by
  obtain ⟨S, hb⟩ := hb
  exact ⟨S, (hk.block g hg).trans hb⟩
theorem Bk.of_own {w : World} {B g n cap : Nat} {l : List Nat} (h : w.ownsRow B 40 1 (.slice (some ⟨g, 0, none⟩) n cap) n (l.map u32V)) : Bk w g l ∧ B ≤ g ∧ n ≤ cap := by
  rcases h.2 with ⟨h2, _⟩ | ⟨g', cap', cur, hv, hb, hg, hn, _, _, ht⟩
  · cases h2
  · cases hv
    refine ⟨⟨cur.toList.drop (n * 1), ?_⟩, hb, hn⟩
    rw [hg, ← ht, List.take_append_drop]
theorem Bk.made {w : World} (l : List Nat) : Bk (w.alloc (.cells (l.map u32V).toArray 40)) w.heap.size l := ⟨[], by rw [List.append_nil]; exact heap_alloc_new _ _⟩
/-- 'make' of places for digits -/
theorem mk_any (n : Nat) (hn : n ≤ 1000000) (w : World) : (Instr.makeSlice 22 (.int .i64 n) (.int .i64 n)).run Tryd.prog w = .ok (.slice (some ⟨w.heap.size, 0, none⟩) n n) (w.alloc (.cells ((List.replicate n 0).map u32V).toArray 40)) := by
  obtain ⟨i0, hi, hz0, hz1, hz2⟩ := info_parts Tryd.infoU32
  have h := run_make w 22 40 i0 (.int .u32 0) Tryd.underlying22 hi hz0 .i64 .i64 n n (by omega) (by omega) (by rw [hz2]; omega) (by omega)
  rw [h, hz1]
  have e : ((n : Int)).toNat = n := by omega
  rw [e, Nat.mul_one]
  congr 4
  apply Array.ext_getElem?
  intro k
  simp [madeCells, Value.cells, u32V, Array.getElem?_range]
  by_cases hk : k < n
  · simp [hk, Nat.mod_one]
  · simp [hk]
theorem append_zero {w : World} {ops : Array Oper} {rest : List Oper} {o : Oper} {a : Act} {Q : Exit → Act → World → Prop} (hgd : o.guard = none) (s x : Operand)
    (ho : o.op = .call { callee := .builtin .append, args := #[s, x], argTypes := #[22, 22] })
    (hs : a.eval s = .slice none 0 0) (ad : Option Addr) (c : Nat) (hx : a.eval x = .slice ad 0 c)
    (h : wpList Tryd.prog ops Q rest (a.put o.dst (.slice none 0 0)) w) : wpList Tryd.prog ops Q (o :: rest) a w := by
  obtain ⟨i0, hi, hz0, hz1, hz2⟩ := info_parts Tryd.infoU32
  have hl : ∀ (x : Addr), (loadCells x 0).run Tryd.prog w = .ok #[] w := fun x => by simpa using run_loadCells_list (P := Tryd.prog) w x [] (by simp)
  refine wpList_plain hgd fun K hK => ?_
  have hrun : (Builtin.append_ #[22, 22] o.type #[.slice none 0 0, .slice ad 0 c]).run Tryd.prog w = .ok (.slice none 0 0) w := by
    cases ad <;> simp [Builtin.append_, run_underlying Tryd.underlying22, sizeOf, typeInfo, hi, Builtin.lenOf, Builtin.firstCells, hl]
  unfold Oper.wp
  simp [execOp, ho, resolve, invoke, builtin, hs, hx, hrun, Result.andThen]
  exact hK _ _ h
/-- a slice of digits that is read, none of whose cells lies in block g -/
def Rd (g : Nat) (w : World) (v : Value) (l : List Nat) : Prop :=
  ∃ a c, v = .slice a l.length c ∧ ∀ j, j < l.length → ∃ b off, a = some ⟨b, off, none⟩ ∧ b ≠ g ∧ b < w.heap.size ∧ w.cell? ⟨b, off + j, none⟩ = some (u32V (l.getD j 0))
theorem Rd.of {w : World} {v : Value} {l : List Nat} {g : Nat} (h : U32s w v l) (hg : w.heap.size ≤ g) : Rd g w v l := by
  rcases h with ⟨rfl, a, c, rfl⟩ | ⟨b, off, cap, rfl, hb, hc⟩
  · exact ⟨a, c, rfl, fun j hj => by simp at hj⟩
  · exact ⟨_, _, rfl, fun j hj => ⟨b, off, rfl, by omega, hb, hc j hj⟩⟩
theorem Rd.keep {w w' : World} {v : Value} {l : List Nat} {g : Nat} (h : Rd g w v l) (hk : Keep g w w') : Rd g w' v l := by
  obtain ⟨a, c, rfl, h⟩ := h
  refine ⟨a, c, rfl, fun j hj => ?_⟩
  obtain ⟨b, off, e, hn, hb, hc⟩ := h j hj
  exact ⟨b, off, e, hn, by rw [hk.size]; exact hb, (World.cell?_of_block (hk.block b hn)).trans hc⟩
theorem Rd.below {w w' : World} {v : Value} {l : List Nat} {g : Nat} (h : Rd g w v l) (hk : Below w.heap.size w w') : Rd g w' v l := by
  obtain ⟨a, c, rfl, h⟩ := h
  refine ⟨a, c, rfl, fun j hj => ?_⟩
  obtain ⟨b, off, e, hn, hb, hc⟩ := h j hj
  exact ⟨b, off, e, hn, Nat.lt_of_lt_of_le hb hk.size, (hk.cell (p := ⟨b, off + j, none⟩) hb).trans hc⟩
theorem Rd.val {g : Nat} {w : World} {v : Value} {l : List Nat} (h : Rd g w v l) : ∃ a c, v = .slice a l.length c := by
  obtain ⟨a, c, e, _⟩ := h; exact ⟨a, c, e⟩
theorem U32s.below {w w' : World} {v : Value} {l : List Nat} (h : U32s w v l) (hk : Below w.heap.size w w') : U32s w' v l := by
  rcases h with ⟨rfl, a, c, rfl⟩ | ⟨b, off, cap, rfl, hb, hc⟩
  · exact .inl ⟨rfl, a, c, rfl⟩
  · exact .inr ⟨b, off, cap, rfl, Nat.lt_of_lt_of_le hb hk.size, fun j hj => (hk.cell (p := ⟨b, off + j, none⟩) hb).trans (hc j hj)⟩
/-- a block's places, read as a slice -/
theorem Bk.rd {w : World} {g h : Nat} {A l C : List Nat} {off n cap : Nat} (hb : Bk w h (A ++ l ++ C)) (ho : off = A.length) (hn : n = l.length) (hne : h ≠ g) : Rd g w (.slice (some ⟨h, off, none⟩) n cap) l := by
  subst ho; subst hn
  refine ⟨_, _, rfl, fun j hj => ⟨h, A.length, rfl, hne, hb.lt, hb.cell ?_⟩⟩
  rw [List.append_assoc, List.getElem?_append_right (by omega), Nat.add_sub_cancel_left, List.getElem?_append_left hj, List.getD_eq_getElem?_getD, List.getElem?_eq_getElem hj, Option.getD_some]
theorem Bk.u32s {w : World} {h : Nat} {l C : List Nat} {n cap : Nat} (hb : Bk w h (l ++ C)) (hn : n = l.length) : U32s w (.slice (some ⟨h, 0, none⟩) n cap) l := by
  subst hn
  refine .inr ⟨h, 0, cap, rfl, hb.lt, fun j hj => hb.cell ?_⟩
  rw [Nat.zero_add, List.getElem?_append_left hj, List.getD_eq_getElem?_getD, List.getElem?_eq_getElem hj, Option.getD_some]
theorem trimB_take (l : List Nat) : trimB l = l.take (trimB l).length ∧ (trimB l).length ≤ l.length := by
  have h : l = trimB l ++ (l.reverse.takeWhile (· == 0)).reverse := by
    unfold trimB
    rw [← List.reverse_append, List.takeWhile_append_dropWhile, List.reverse_reverse]
  have hl := congrArg List.length h
  rw [List.length_append] at hl
  refine ⟨?_, by omega⟩
  conv => rhs; arg 2; rw [h]
  rw [List.take_left]
/-- a round of the program's trim -/
theorem trimB_round {l : List Nat} {n : Nat} (hn : n < l.length) : trimB (l.take (n + 1)) = if l.getD n 0 = 0 then trimB (l.take n) else l.take (n + 1) := by
  rw [List.take_succ_eq_append_getElem hn, List.getD_eq_getElem?_getD, List.getElem?_eq_getElem hn, Option.getD_some]
  by_cases h : l[n] = 0
  · rw [if_pos h, h, trimB_snoc0]
  · rw [if_neg h, trimB_snoc h]

set_option maxRecDepth 100000 in
set_option maxHeartbeats 4000000 in
theorem ptrim_any (h n cap : Nat) (l C : List Nat) (hn : n = l.length) (hcap : n ≤ cap) (hl : n ≤ 1000000) (w : World) (hb : Bk w h (l ++ C)) :
    Calls Tryd.prog 40 #[.slice (some ⟨h, 0, none⟩) n cap] w fun e w' => e = .returned (.slice (some ⟨h, 0, none⟩) (trimB l).length (trimB l).length) ∧ ∃ q, w' = w.drewN q := by
  obtain ⟨R, hR⟩ : ∃ R, R = trimB l := ⟨_, rfl⟩
  have HR : Hid (R = trimB (l.take n)) := by show _ = _; rw [hn, List.take_length]; exact hR
  rw [← hR]
  have HB := Lib.hid hb
  have HN := Lib.hid hn
  clear hR hb hn
  go_enter Tryd.func40, Tryd.ntmps40
  go_wp2
  go_loopw [3] (fun x wr => ∃ k q : Nat, x = .int .i64 k ∧ k ≤ n ∧ Hid (R = trimB (l.take k)) ∧ wr = w.drewN q) (fun x _ => (intOf x).toNat)
  case atStart => exact ⟨n, 0, rfl, Nat.le_refl _, HR, rfl⟩
  case round =>
    obtain ⟨k, q, rfl, hk, HK, hw⟩ := hrel
    have HW := Lib.hid hw
    have hbk : Bk wr h (l ++ C) := by rw [hw]; exact HB.out.drewN q
    clear hw
    rcases k with _ | t
    · have g0 : ¬ (0 : Int) < ((0 : Nat) : Int) := by omega
      have hc0 : (0 : Int) ≤ cap := by omega
      have hRl : Hid (R.length = 0) := by show _ = _; rw [HK.out, List.take_zero]; rfl
      clear hbk
      go_wp2
      go_ret
      exact ⟨by rw [hRl.out]; rfl, q, HW.out⟩
    · have t0 : (0 : Int) ≤ t := Int.natCast_nonneg _
      have htl : t < l.length := by have := HN.out; omega
      obtain ⟨x, hx⟩ : ∃ x, x = l.getD t 0 := ⟨_, rfl⟩
      have hc : wr.cell? ⟨h, t, none⟩ = some (.int .u32 x) := hbk.cell (by
        rw [List.getElem?_append_left htl, hx, List.getD_eq_getElem?_getD, List.getElem?_eq_getElem htl, Option.getD_some])
      have hr := trimB_round htl
      rw [← hx] at hr
      have ht : (t : Int) < n := by omega
      clear hbk hx
      by_cases h0 : x = 0
      · rw [if_pos h0] at hr
        have HR2 : Hid (R = trimB (l.take t)) := by show _ = _; rw [HK.out, hr]
        have e0 : ((x : Int) == 0) = true := by simp [h0]
        clear hr h0 HK
        go_wp2
        go_roundw
        case rel => exact ⟨t, q, by go_num, by omega, HR2, HW.out⟩
        case measure => simp [intOf]
      · rw [if_neg h0] at hr
        have HR2 : Hid (R = l.take (t + 1)) := by show _ = _; rw [HK.out, hr]
        have e0 : ((x : Int) == 0) = false := by simp [h0]
        clear hr h0 HK
        go_wp2
        go_ret
        exact ⟨by rw [HR2.out, List.length_take, Nat.min_eq_left (by omega)]; rfl, q, HW.out⟩
/-- what 'copied' hands back -/
def Copy (B : Nat) (w' : World) (v : Value) (l : List Nat) : Prop :=
  (l = [] ∧ v = .slice none 0 0) ∨ ∃ g, v = .slice (some ⟨g, 0, none⟩) l.length l.length ∧ B ≤ g ∧ g < w'.heap.size ∧ Bk w' g l
theorem Copy.u32s {B : Nat} {w : World} {v : Value} {l : List Nat} (h : Copy B w v l) : U32s w v l := by
  rcases h with ⟨rfl, rfl⟩ | ⟨g, rfl, _, _, hb⟩
  · exact .inl ⟨rfl, _, _, rfl⟩
  · exact Bk.u32s (C := []) (by rw [List.append_nil]; exact hb) rfl

set_option maxRecDepth 100000 in
set_option maxHeartbeats 4000000 in
theorem pcopied_any (v : Value) (l : List Nat) (hl : l.length ≤ 1000000) (w : World) (hu : U32s w v l) :
    Calls Tryd.prog 39 #[v] w fun e w' => (∃ v', e = .returned v' ∧ Copy w.heap.size w' v' l) ∧ Below w.heap.size w w' := by
  obtain ⟨i0, hi, hz0, hz1, hz2⟩ := info_parts Tryd.infoU32
  by_cases h0 : l.length = 0
  · obtain ⟨a, c, rfl⟩ := hu.val
    have hl0 : l = [] := List.length_eq_zero_iff.1 h0
    rw [h0]
    clear hu
    go_enter Tryd.func39, Tryd.ntmps39
    go_wp2_with (at_builtin; refine append_zero rfl _ _ rfl rfl a c rfl ?_)
    go_wp2
    go_ret
    exact ⟨⟨_, rfl, .inl ⟨hl0, rfl⟩⟩, Below.refl _ _⟩
  · rcases hu with ⟨rfl, _⟩ | ⟨b, off, cap, rfl, hb, hc⟩
    · simp at h0
    · have K1 : Hid (∀ (j : Nat) u, (l.map u32V)[j]? = some u → w.cell? ((⟨b, off, none⟩ : Addr).add j) = some u) := by
        intro j u hj
        rw [List.getElem?_map] at hj
        by_cases hjl : j < l.length
        · rw [List.getElem?_eq_getElem hjl] at hj
          cases hj
          have := hc j hjl
          rw [List.getD_eq_getElem?_getD, List.getElem?_eq_getElem hjl] at this
          rw [show (⟨b, off, none⟩ : Addr).add j = ⟨b, off + j, none⟩ by unfold Addr.add; split <;> simp_all]
          exact this
        · rw [List.getElem?_eq_none (by omega)] at hj; cases hj
      have K2 : Hid (∀ u ∈ l.map u32V, u.oneCell' = true) := by
        intro u hu
        obtain ⟨d, _, rfl⟩ := List.mem_map.1 hu
        rfl
      have K3 : 0 + l.length ≤ maxLen := by unfold maxLen; omega
      have K4 : (0 + l.length) * 4 ≤ 140737488355328 := by omega
      obtain ⟨n, hn⟩ : ∃ n, n = l.length := ⟨_, rfl⟩
      have HN := Lib.hid hn
      rw [← hn] at K3 K4 ⊢
      have n0 : 0 < n := by omega
      clear hc hb hn h0 hl
      go_enter Tryd.func39, Tryd.ntmps39
      go_wp2_with (at_builtin; refine wpList_append_lies _ rfl _ _ 22 rfl w.heap.size 40 i0 (.int .u32 0) 1 4 Tryd.underlying22 hi hz0 hz1 hz2 rfl (by decide) _ 0 [] rfl (World.ownsRow_nil _ _ _ _) ⟨b, off, none⟩ n cap (l.map u32V) rfl (by rw [List.length_map, HN.out, Nat.mul_one]) K1.out K2.out n0 K3 K4 (Nat.le_refl _) w.heap.size rfl ?_)
      intro g cap' w1 hown hgrow hat hlt
      have hbk := Bk.of_own hown
      have HBK := Lib.hid hbk.1
      have hgB := hbk.2.1
      have hnc := hbk.2.2
      have HBL := Lib.hid ((Below.refl w.heap.size w).grown hgrow (Nat.le_refl _) (fun k hk => by cases hk))
      clear hown hgrow hat hbk
      go_wp2
      go_ret
      refine ⟨⟨_, rfl, .inr ⟨g, ?_, hgB, hlt, HBK.out⟩⟩, HBL.out⟩
      rw [← HN.out]
      rfl
end Go.Proofs.YtibhfcnjmilepaaDoor
