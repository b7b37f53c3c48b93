import Derived.Test.YtgjkobkcmgliaaaNwL
import Derived.Test.YtgjkobkcmgliaaaShelf
import Derived.Lib.AppendZerosOnto
import Derived.LoopN
-- joined
namespace Go.Proofs.Ytgjkobkcmgliaaa
open Go.RowKit Go.Shelf Go.Lib Go.Sort

/-- the order of facts: by their variables -/
def cfF (x y : Int × Int) : Int := Lib.compareInt x.1 y.1
theorem ltF (x y : Int × Int) : ltOf cfF x y = decide (x.1 < y.1) := by
  unfold ltOf cfF Lib.compareInt
  by_cases h1 : x.1 < y.1
  · simp [h1]
  · by_cases h2 : y.1 < x.1 <;> simp [h1, h2]
theorem swoF : SWO (ltOf cfF) where
  irrefl x := by rw [ltF]; simp
  trans x y z h1 h2 := by rw [ltF] at *; simp at *; omega
  ntrans x y z h1 h2 := by rw [ltF] at *; simp at *; omega

set_option maxRecDepth 100000 in
set_option maxHeartbeats 1000000 in
theorem cmp_go (x y : Int × Int) (W : World) : Calls Try.prog 66 #[.agg #[.int .i64 x.1, .int .i64 x.2], .agg #[.int .i64 y.1, .int .i64 y.2]] W fun e w' => e = .returned (.int .i64 (cfF x y)) ∧ ∃ q os', w' = grow (W.drewN q) os' := by
  have hcon := fun W' => AnyG.cmp_Compare_int Try.cmpInt x.1 y.1 W'
  change ∀ W', Calls Try.prog 67 _ _ _ at hcon
  show Calls Try.prog 66 _ W fun e w' => e = .returned (.int .i64 (Lib.compareInt x.1 y.1)) ∧ ∃ q os', w' = grow (W.drewN q) os'
  generalize Lib.compareInt x.1 y.1 = r at hcon ⊢
  go_enter Try.func66, Try.ntmps66
  go_wp2_with (go_at_call 67; refine (hcon _).mono ?_; rintro e w' ⟨rfl, rfl⟩)
  go_ret
  exact ⟨rfl, 0, _, by rw [alloc_eq_grow, alloc_eq_grow, grow_grow]; rfl⟩

theorem flat_get (d : Array (Int × Int)) (t : Nat) (h : t < d.size * 2) : (flatK faCells 2 d)[t]? = (fasCells d.toList)[t]? := by
  have h2 : t / 2 < d.size := by omega
  have hs : t < (flatK faCells 2 d).size := by simpa using h
  rw [Array.getElem?_eq_getElem hs, ← getElem!_pos (flatK faCells 2 d) t hs, get_flatK _ _ _ _ h]
  have hg := fasCells_get d.toList (t / 2) (by simpa using h2)
  have e0 : d.toList.getD (t / 2) fa0 = d[t / 2]! := by
    rw [List.getD_eq_getElem?_getD, Array.getElem?_toList, getElem!_pos d _ h2]; simp [h2]
  rw [e0] at hg
  rcases (by omega : t % 2 = 0 ∨ t % 2 = 1) with e | e
  · rw [e, show t = t / 2 * 2 by omega, show t / 2 * 2 / 2 = t / 2 by omega, hg.1]; rfl
  · rw [e, show t = t / 2 * 2 + 1 by omega, show (t / 2 * 2 + 1) / 2 = t / 2 by omega, hg.2]; rfl
theorem own_block? {w : World} {B e sz g cap n : Nat} {xs : List Value} (h : w.ownsRow B e sz (.slice (some ⟨g, 0, none⟩) n cap) n xs) : ∃ cur, B ≤ g ∧ w.heap[g]? = some (.cells cur e (0, 0)) ∧ n ≤ cap ∧ cap ≤ maxLen ∧ cur.size = cap * sz ∧ cur.toList.take (n * sz) = xs := by
  rcases h.2 with ⟨h, _⟩ | ⟨g', cap', cur, hv, hb, hg, r⟩
  · cases h
  · cases hv; exact ⟨cur, hb, hg, r⟩
/-- such a row holds its facts, as the sort has it -/
theorem own_holds {w : World} {B e g cap n : Nat} {l : List (Int × Int)} (_hn : n = l.length) (h : w.ownsRow B e 2 (.slice (some ⟨g, 0, none⟩) n cap) n (fasCells l)) : HoldsK faCells 2 w g 0 l.toArray := by
  obtain ⟨cur, _, hg, _⟩ := own_block? h
  intro j hj
  have hj2 : j < l.length * 2 := by simpa using hj
  have h1 := flat_get l.toArray j (by simpa using hj2)
  rw [Array.getElem?_eq_getElem hj, ← getElem!_pos (flatK faCells 2 l.toArray) j hj] at h1
  have h2 := @World.ownsRow.cells _ _ _ _ _ _ _ h g rfl j _ h1.symm
  rw [add_none] at h2
  rw [Nat.zero_add]
  exact ⟨h2, Lib.frozen_of_heap hg j⟩
/-- the row behind the sort -/
theorem sorted_own {w : World} {B e g cap n m : Nat} {l : List (Int × Int)} {d : Array (Int × Int)} {os : Array Obj} (hn : n = l.length) (hd : d.size = n) (hlt : g < w.heap.size) (h : w.ownsRow B e 2 (.slice (some ⟨g, 0, none⟩) n cap) n (fasCells l)) :
    (sortWorldK faCells 2 w g 0 m d os).ownsRow B e 2 (.slice (some ⟨g, 0, none⟩) n cap) n (fasCells d.toList) := by
  obtain ⟨cur, hB, hg, hnc, hcm, hcs, ht⟩ := own_block? h
  have hF : (flatK faCells 2 d).size = n * 2 := by rw [size_flatK, hd]
  refine ⟨by rw [fasCells_len]; simp [hd], .inr ⟨g, cap, putCells id 0 (flatK faCells 2 d) cur, rfl, hB, ?_, hnc, hcm, by simp [putCells, hcs], ?_⟩⟩
  · unfold sortWorldK grow putRowK putRow mapBlock
    simp only
    rw [Array.getElem?_append_left (by simpa using hlt), Array.getElem?_modify]
    simp [hg, onCells]
  · refine List.ext_getElem? fun t => ?_
    by_cases htl : t < n * 2
    · rw [List.getElem?_take_of_lt htl, Array.getElem?_toList]
      have hc : t < cur.size := by rw [hcs]; have := Nat.mul_le_mul_right 2 hnc; omega
      have h1 := flat_get d t (by rw [hd]; exact htl)
      rw [← h1]
      have hFt : t < (flatK faCells 2 d).size := by rw [hF]; exact htl
      rw [Array.getElem?_eq_getElem hFt]
      unfold putCells
      rw [Array.getElem?_mapIdx, Array.getElem?_eq_getElem hc]
      simp only [Option.map_some, Nat.zero_le, Nat.zero_add, true_and, id, Nat.sub_zero, if_pos hFt]
      rw [getElem!_pos (flatK faCells 2 d) t hFt]
    · rw [List.getElem?_eq_none (by simp; omega), List.getElem?_eq_none (by rw [fasCells_len]; simp [hd]; omega)]
theorem sorted_but {w : World} {g m : Nat} {d : Array (Int × Int)} {os : Array Obj} (_hlt : g < w.heap.size) : But g w (sortWorldK faCells 2 w g 0 m d os) := by
  refine ⟨rfl, rfl, rfl, ?_, fun k hk hn => ?_⟩
  · unfold sortWorldK grow putRowK putRow mapBlock; simp
  · unfold sortWorldK grow putRowK putRow mapBlock
    simp only
    rw [Array.getElem?_append_left (by simpa [ahead] using hk), Array.getElem?_modify, if_neg (Ne.symm hn)]
    rfl

theorem sort_some (B g n cap : Nat) (l : List (Int × Int)) (w : World) (hn : n = l.length) (hm : n ≤ 100000) (h : w.ownsRow B 61 2 (.slice (some ⟨g, 0, none⟩) n cap) n (fasCells l)) :
    Calls Try.prog 65 #[.slice (some ⟨g, 0, none⟩) n cap, .func (.func 66) #[] #[]] w fun e w' => e = .returned (.tuple #[]) ∧ But g w w' ∧
      ∃ d, d.Perm l ∧ Sorted d ∧ w'.ownsRow B 61 2 (.slice (some ⟨g, 0, none⟩) n cap) n (fasCells d) := by
  have hlt := (own_some_lt h).2
  have eg : ∀ args w, (callFunc 66 args).run Try.prog w = .ok (.enter 66 args) w := enters_of Try.func66 (by kernel_rfl) rfl
  have hcon := AnyQ.slices_SortFunc Try.sortFa 2 Try.isAgg61 Try.sizeOf61 faCells (fun _ => rfl) (fun x v hv => by simp [faCells] at hv; rcases hv with rfl | rfl <;> rfl) cfF swoF 66 #[] g 0 cap l.toArray w eg
    (fun _ _ _ _ x y => cmp_go x y _) (own_holds hn h) hlt (by simp; omega)
  have e : (l.toArray.size : Int) = (n : Int) := by simp [hn]
  have e2 : l.toArray.size = n := by simp [hn]
  rw [e2] at hcon
  change Calls Try.prog 65 _ _ _ at hcon
  refine hcon.mono fun e w' ⟨he, d, m, os, hp, hs, hw⟩ => ⟨he, ?_, d.toList, ?_, ?_, ?_⟩
  · rw [hw]; exact sorted_but hlt
  · have h3 := hp.2.2
    have e3 : d.size = n := by rw [hp.1, e2]
    have e4 : (d.extract 0 n).toList = d.toList := by rw [← e3]; simp
    have e5 : (l.toArray.extract 0 n).toList = l := by rw [hn]; simp
    rw [e4, e5] at h3
    exact h3
  · have e3 : d.size = n := by rw [hp.1, e2]
    refine List.pairwise_iff_getElem.2 fun i j hi hj hij => ?_
    have hi' : i < d.size := by simpa using hi
    have hj' : j < d.size := by simpa using hj
    have h4 := hs i j (Nat.zero_le _) hij (by omega)
    rw [ltF, getElem!_pos d _ hj', getElem!_pos d _ hi'] at h4
    simp only [decide_eq_false_iff_not, Int.not_lt] at h4
    simpa using h4
  · rw [hw]; exact sorted_own hn (by rw [hp.1, e2]) hlt h
end Go.Proofs.Ytgjkobkcmgliaaa
namespace Go.Proofs.Ytgjkobkcmgliaaa
open Go.RowKit

/-- an append of a slice, be it nil, onto a row of the call's own, be it nil -/
theorem run_append_gen {P : Program} (w : World) (base : Nat) (t ty e : TypeId) (i : TypeInfo) (z : Value) (size bytes : Nat) (ht : P.underlying t = some (.slice e)) (hi : P.info? e = some i) (hz : i.zero = some z)
    (hsize : i.size = size) (hby : i.bytes = bytes) (hzs : z.cells.size = size) (hsz : 0 < size)
    (v : Value) (n : Nat) (xs : List Value) (hown : w.ownsRow base e size v n xs)
    (ad : Option Addr) (m c : Nat) (news : List Value) (hl : news.length = m * size) (hnews : (m = 0 ∧ ad = none) ∨ ∃ a, ad = some a ∧ ∀ j u, news[j]? = some u → w.cell? (a.add j) = some u) (h1 : ∀ u ∈ news, u.oneCell' = true)
    (h63 : n + m ≤ maxLen) (hbytes : (n + m) * bytes ≤ 140737488355328) (hbase : base ≤ w.heap.size) :
    ∃ v' w', (Builtin.append_ #[t, t] ty #[v, .slice ad m c]).run P w = .ok v' w' ∧ w'.ownsRow base e size v' (n + m) (xs ++ news) ∧ w.grownBy w' v.ownBlock := by
  rcases hnews with ⟨rfl, rfl⟩ | ⟨a, rfl, hnews⟩
  · have hn : news = [] := List.eq_nil_of_length_eq_zero (by simpa using hl)
    subst hn
    rcases hown.2 with ⟨rfl, rfl⟩ | ⟨g, cap, cur, rfl, hb, hg, hr⟩
    · refine ⟨.slice none 0 0, w, ?_, by simpa using hown, ⟨rfl, rfl, rfl, Nat.le_refl _, fun _ _ _ => rfl⟩⟩
      simp [Builtin.append_, run_underlying ht, sizeOf, typeInfo, hi, Builtin.lenOf, Builtin.firstCells]
    · obtain ⟨g', cap', w', h1, h2, h3, _⟩ := run_append_onto (P := P) w base t ty e i z size bytes ht hi hz hsize hby hzs hsz g cap n xs hown none 0 c [] (by simp) (.inl ⟨rfl, rfl⟩) (by simp) h63 hbytes hbase w.heap.size rfl
      exact ⟨_, w', h1, h2, h3⟩
  · obtain ⟨v', w', hr, h2, h3, _⟩ := run_append_own_at (P := P) w base t ty e i z size bytes ht hi hz hsize hby hzs hsz v n xs hown a m c news hl hnews h1 h63 hbytes hbase
    exact ⟨v', w', hr, h2, h3⟩
theorem wpl_append_gen {P : Program} (w : World) {ops : Array Oper} {rest : List Oper} {o : Oper} {a : Act} {Q : Exit → Act → World → Prop} (hgd : o.guard = none) (s x : Operand) (t : TypeId)
    (ho : o.op = .call { callee := .builtin .append, args := #[s, x], argTypes := #[t, t] })
    (base e : Nat) (i : TypeInfo) (z : Value) (size bytes : Nat) (ht : P.underlying t = some (.slice e)) (hi : P.info? e = some i) (hz : i.zero = some z)
    (hsize : i.size = size) (hby : i.bytes = bytes) (hzs : z.cells.size = size) (hsz : 0 < size)
    (v : Value) (n : Nat) (xs : List Value) (hs : a.eval s = v) (hown : w.ownsRow base e size v n xs)
    (ad : Option Addr) (m c : Nat) (news : List Value) (hx : a.eval x = .slice ad m c) (hl : news.length = m * size) (hnews : (m = 0 ∧ ad = none) ∨ ∃ a, ad = some a ∧ ∀ j u, news[j]? = some u → w.cell? (a.add j) = some u) (h1 : ∀ u ∈ news, u.oneCell' = true)
    (h63 : n + m ≤ maxLen) (hbytes : (n + m) * bytes ≤ 140737488355328) (hbase : base ≤ w.heap.size)
    (h : ∀ v' w', w'.ownsRow base e size v' (n + m) (xs ++ news) → w.grownBy w' v.ownBlock → wpList P ops Q rest (a.put o.dst v') w') : wpList P ops Q (o :: rest) a w := by
  obtain ⟨v', w', hr, h2, h3⟩ := run_append_gen (P := P) w base t o.type e i z size bytes ht hi hz hsize hby hzs hsz v n xs hown ad m c news hl hnews h1 h63 hbytes hbase
  exact Lib.wpList_append_run w hgd s x t t ho v _ hs hx v' w' hr (h v' w' h2 h3)

/-- a slice of facts handed back -/
def SlPost (l : List (Int × Int)) (w : World) (e : Ending) (w' : World) : Prop := (∃ v, e = .returned v ∧ FaB w.heap.size w' v l) ∧ Below w.heap.size w w'

set_option maxRecDepth 100000 in
set_option maxHeartbeats 4000000 in
theorem fclone_go (B n c : Nat) (a : Option Addr) (l : List (Int × Int)) (w : World) (hn : n = l.length) (hm : n ≤ 100000) (hl : FaB B w (.slice a n c) l) :
    Calls Try.prog 84 #[.slice a n c] w (SlPost l w) := by
  obtain ⟨i0, hi, hz0, hz1, hz2⟩ := info_parts Try.infoFa
  have q22 : ∀ (w : World) (a : Option Addr) (n c n' c' : Nat), (binOp .eql 28 (.slice a n c) (.slice none n' c')).run Try.prog w = .ok (.bool a.isNone) w := fun w a n c n' c' => Lib.run_eql_slice_nil w _ _ a n c n' c' Try.underlying28
  cases a with
  | none =>
    rcases hl with ⟨rfl, _⟩ | ⟨b, off, cap, e, _⟩
    · go_enter Try.func84, Try.ntmps84
      go_wp2
      go_ret
      exact ⟨⟨_, rfl, FaB.nil _ _ _ _⟩, Below.refl _ _⟩
    · cases e
  | some ad =>
    have HS := Lib.hid (hl.src hn)
    have HL := Lib.hid (show (fasCells l).length = n * 2 by rw [fasCells_len, hn])
    have HN := Lib.hid hn
    have HM := Lib.hid (show l.length ≤ maxLen by rw [← hn]; unfold maxLen; omega)
    clear hl hn
    go_enter Try.func84, Try.ntmps84
    go_wp2_with (at_builtin; refine wpl_append_gen _ rfl _ _ 28 rfl w.heap.size 61 i0 (.agg #[.int .i64 0, .int .i64 0]) 2 16 Try.underlying28 hi hz0 hz1 hz2 rfl (by decide) _ 0 [] rfl (World.ownsRow_made w #[] 0 (Nat.le_refl _) (Nat.zero_le _) rfl) (some ad) n c (fasCells l) rfl HL.out (HS.out _ ((Below.refl _ _).alloc (Nat.le_refl _) _)) (fasCells_one l) (by unfold maxLen; omega) (by omega) (by simp) ?_)
    intro v' w1 hown hgrow
    have hbl : Below w.heap.size w w1 := ((Below.refl _ w).alloc (Nat.le_refl _) _).grown hgrow (by simp) (by intro k hk; simp [Value.ownBlock] at hk; omega)
    have HF := Lib.hid (show FaB w.heap.size w1 v' l from FaB.of_own (e := 61) (by rw [← HN.out]; simpa using hown) HM.out)
    have HB := Lib.hid hbl
    clear hown hgrow hbl
    go_wp2
    go_ret
    exact ⟨⟨_, rfl, HF.out⟩, HB.out⟩

set_option maxRecDepth 100000 in
set_option maxHeartbeats 8000000 in
theorem fgrow_go (n : Nat) (w : World) (hb : n ≤ 100000) :
    Calls Try.prog 85 #[.slice none 0 0, .int .i64 n] w fun e w' => (∃ v, e = .returned v ∧ w'.ownsRow w.heap.size 61 2 v 0 []) ∧ Below w.heap.size w w' := by
  by_cases h0 : n = 0
  · subst h0
    go_enter Try.func85, Try.ntmps85
    go_wp2
    go_ret
    exact ⟨⟨_, rfl, World.ownsRow_nil _ _ _ _⟩, Below.refl _ _⟩
  have h0 : 0 < n := by omega
  obtain ⟨i0, hi, hz0, hz1, hz2⟩ := info_parts Try.infoFa
  have h1 : ¬ ((n : Int) < 0) := by omega
  have h4 : (0 : Int) < (n : Int) := by omega
  have hold : (Builtin.firstCells i0.size 0 (.slice none 0 0)).run Try.prog w.drew = .ok (([] : List Value).toArray) w.drew := run_firstCells_none w.drew i0.size 0 0 0
  have hrz : ∀ ty, (Builtin.append_ #[28, 3] ty #[.slice none 0 0, .int .i64 (n : Int)]).run Try.prog w =
      .ok (.slice (some ⟨w.heap.size, 0, none⟩) n (grownCap w n 0 61)) (w.drew.alloc (.cells (([] : List Value).toArray ++ Builtin.zeroCells (Value.agg #[.int .i64 0, .int .i64 0]).cells n ++ Builtin.zeroCells (Value.agg #[.int .i64 0, .int .i64 0]).cells (grownCap w n 0 61 - n)) 61)) := fun ty => by
    have h := Lib.run_append_grow_zeros w 28 3 ty 61 i0 _ .i64 .i64 Try.underlying28 Try.underlying3 hi hz0 none 0 0 [] hold n h0 (by omega) (by omega) (by omega)
      (by rw [hz2]; omega) (by rw [Nat.zero_add]; exact growslice_fits h0 (by rw [hz2]; omega))
    rw [Nat.zero_add] at h
    exact h
  have hGn : n ≤ grownCap w n 0 61 := grownCap_ge w _ _ _
  have hG63 : grownCap w n 0 61 ≤ maxLen := grownCap_le_maxLen w n 0 61 (by unfold maxLen; omega)
  have hsz : ∀ k, (Builtin.zeroCells (Value.agg #[.int .i64 0, .int .i64 0]).cells k).size = k * 2 := fun k => by
    unfold Builtin.zeroCells; rw [Array.size_map, Array.size_range]; rfl
  obtain ⟨G, hG⟩ : ∃ G, G = grownCap w n 0 61 := ⟨_, rfl⟩
  rw [← hG] at hrz hGn hG63
  obtain ⟨cur, hcur⟩ : ∃ cur, cur = ([] : List Value).toArray ++ Builtin.zeroCells (Value.agg #[.int .i64 0, .int .i64 0]).cells n ++ Builtin.zeroCells (Value.agg #[.int .i64 0, .int .i64 0]).cells (G - n) := ⟨_, rfl⟩
  rw [← hcur] at hrz
  have hcs : cur.size = G * 2 := by rw [hcur]; simp only [Array.size_append, hsz]; simp; omega
  have HO := Lib.hid (World.ownsRow_made (base := w.heap.size) (e := 61) (size := 2) w.drew cur G (Nat.le_refl _) hG63 hcs)
  have HB := Lib.hid (show Below w.heap.size w (w.drew.alloc (.cells cur 61)) from (Below.refl _ _).drew.alloc (Nat.le_refl _) _)
  have HGN := Lib.hid hGn
  have hG2 : (G : Int) ≤ 9223372036854775807 := by unfold maxLen at hG63; omega
  clear hold hG hcur hcs hsz hGn hG63
  go_enter Try.func85, Try.ntmps85
  go_wp2_with (at_builtin; refine Lib.wpList_append_run _ rfl _ _ _ _ rfl _ _ rfl rfl _ _ (hrz _) ?_)
  go_ret
  have h2 := HB.out
  have h3 := HO.out
  exact ⟨⟨_, rfl, by first | exact h3 | simpa using h3⟩, by first | exact h2 | simpa using h2⟩
end Go.Proofs.Ytgjkobkcmgliaaa
namespace Go.Proofs.Ytgjkobkcmgliaaa
open Go.RowKit

set_option maxRecDepth 100000 in
set_option maxHeartbeats 16000000 in
theorem fconcat1_go (q : Nat) (Bn : Nat) (a : Option Addr) (n c : Nat) (l : List (Int × Int)) (w : World) (hq : q < w.heap.size) (hn : n = l.length) (hmn : n ≤ 20000) (hfn : FaB Bn w (.slice a n c) l) (hc0 : w.cell? ⟨q, 0, none⟩ = some (.slice a n c)) :
    Calls Try.prog 64 #[.slice (some ⟨q, 0, none⟩) 1 1] w fun e w' => (∃ v, e = .returned v ∧ w'.ownsRow w.heap.size 61 2 v (n) (fasCells (l))) ∧ Below w.heap.size w w' := by
  obtain ⟨i0, hi, hz0, hz1, hz2⟩ := info_parts Try.infoFa
  have HSn := Lib.hid (hfn.src hn)
  have HLn := Lib.hid (show (fasCells l).length = n * 2 by rw [fasCells_len, hn])
  have HC0 := Lib.hid hc0
  have bn : (n : Int) ≤ 20000 := by omega
  have pn : (0 : Int) ≤ n := by omega
  have dn : decide ((n : Int) < 0) = false := decide_eq_false (by omega)
  have HM := Lib.hid (show n ≤ 40000 by omega)
  have CG := fgrow_go (n) w (by omega)
  have HCG := Lib.hid CG
  have HQ := Lib.hid hq
  clear CG hn hmn hfn
  go_enter Try.func64, Try.ntmps64
  go_wp2
  refine wp_loop_rounds 2 ?_
  rw [rounds_succ]
  go_wp2
  rw [rounds_succ]
  go_wp2_with fail
  refine HCG.out.mono ?_
  rintro e w2 ⟨⟨v0, rfl, hown⟩, hb2⟩
  have HB2 := Lib.hid hb2
  have HOW := Lib.hid hown
  have e0 := (hb2.cell (p := ⟨q, 0, none⟩) HQ.out).trans HC0.out
  clear hc0 hown hb2
  go_wp2
  refine wp_loop_rounds 2 ?_
  rw [rounds_succ]
  go_wp2_with (at_builtin; refine wpl_append_gen _ rfl _ _ 28 rfl w.heap.size 61 i0 (.agg #[.int .i64 0, .int .i64 0]) 2 16 Try.underlying28 hi hz0 hz1 hz2 rfl (by decide) v0 (0) [] rfl HOW.out a n c (fasCells l) rfl HLn.out (HSn.out _ HB2.out) (fasCells_one l) (by have := HM.out; unfold maxLen; omega) (by have := HM.out; omega) HB2.out.size ?_)
  intro v1 w3 hown0 hgrow0
  have hbw3 : Below w.heap.size w w3 := HB2.out.grown hgrow0 HB2.out.size fun k hk => (HOW.out.lt k hk).1
  have HBw3 := Lib.hid hbw3
  have HOw3 := Lib.hid (show w3.ownsRow w.heap.size 61 2 v1 (n) (fasCells l) by simpa using hown0)
  clear hown0 hgrow0 hbw3 e0
  go_wp2
  rw [rounds_succ]
  go_wp2
  go_ret
  refine ⟨⟨_, rfl, ?_⟩, HBw3.out⟩
  have h := HOw3.out
  simpa [fasCells_app] using h

set_option maxRecDepth 100000 in
set_option maxHeartbeats 16000000 in
theorem fconcat2_go (q : Nat) (Bn : Nat) (a : Option Addr) (n c : Nat) (l : List (Int × Int)) (Bm : Nat) (b : Option Addr) (m d : Nat) (k : List (Int × Int)) (w : World) (hq : q < w.heap.size) (hn : n = l.length) (hmn : n ≤ 20000) (hfn : FaB Bn w (.slice a n c) l) (hc0 : w.cell? ⟨q, 0, none⟩ = some (.slice a n c)) (hm : m = k.length) (hmm : m ≤ 20000) (hfm : FaB Bm w (.slice b m d) k) (hc1 : w.cell? ⟨q, 1, none⟩ = some (.slice b m d)) :
    Calls Try.prog 64 #[.slice (some ⟨q, 0, none⟩) 2 2] w fun e w' => (∃ v, e = .returned v ∧ w'.ownsRow w.heap.size 61 2 v (n + m) (fasCells (l ++ k))) ∧ Below w.heap.size w w' := by
  obtain ⟨i0, hi, hz0, hz1, hz2⟩ := info_parts Try.infoFa
  have HSn := Lib.hid (hfn.src hn)
  have HLn := Lib.hid (show (fasCells l).length = n * 2 by rw [fasCells_len, hn])
  have HC0 := Lib.hid hc0
  have bn : (n : Int) ≤ 20000 := by omega
  have pn : (0 : Int) ≤ n := by omega
  have dn : decide ((n : Int) < 0) = false := decide_eq_false (by omega)
  have HSm := Lib.hid (hfm.src hm)
  have HLm := Lib.hid (show (fasCells k).length = m * 2 by rw [fasCells_len, hm])
  have HC1 := Lib.hid hc1
  have bm : (m : Int) ≤ 20000 := by omega
  have pm : (0 : Int) ≤ m := by omega
  have dm : decide ((m : Int) < 0) = false := decide_eq_false (by omega)
  have dnm : decide ((n : Int) + (m : Int) < 0) = false := decide_eq_false (by omega)
  have HM := Lib.hid (show n + m ≤ 40000 by omega)
  have CG := fgrow_go (n + m) w (by omega)
  rw [show ((n + m : Nat) : Int) = (n : Int) + (m : Int) by omega] at CG
  have HCG := Lib.hid CG
  have HQ := Lib.hid hq
  clear CG hn hmn hfn hm hmm hfm
  go_enter Try.func64, Try.ntmps64
  go_wp2
  refine wp_loop_rounds 3 ?_
  rw [rounds_succ]
  go_wp2
  rw [rounds_succ]
  go_wp2
  rw [rounds_succ]
  go_wp2_with fail
  refine HCG.out.mono ?_
  rintro e w2 ⟨⟨v0, rfl, hown⟩, hb2⟩
  have HB2 := Lib.hid hb2
  have HOW := Lib.hid hown
  have e0 := (hb2.cell (p := ⟨q, 0, none⟩) HQ.out).trans HC0.out
  have e1 := (hb2.cell (p := ⟨q, 1, none⟩) HQ.out).trans HC1.out
  clear hc0 hc1 hown hb2
  go_wp2
  refine wp_loop_rounds 3 ?_
  rw [rounds_succ]
  go_wp2_with (at_builtin; refine wpl_append_gen _ rfl _ _ 28 rfl w.heap.size 61 i0 (.agg #[.int .i64 0, .int .i64 0]) 2 16 Try.underlying28 hi hz0 hz1 hz2 rfl (by decide) v0 (0) [] rfl HOW.out a n c (fasCells l) rfl HLn.out (HSn.out _ HB2.out) (fasCells_one l) (by have := HM.out; unfold maxLen; omega) (by have := HM.out; omega) HB2.out.size ?_)
  intro v1 w3 hown0 hgrow0
  have hbw3 : Below w.heap.size w w3 := HB2.out.grown hgrow0 HB2.out.size fun k hk => (HOW.out.lt k hk).1
  have HBw3 := Lib.hid hbw3
  have HOw3 := Lib.hid (show w3.ownsRow w.heap.size 61 2 v1 (n) (fasCells l) by simpa using hown0)
  have e1 := (hbw3.cell (p := ⟨q, 1, none⟩) HQ.out).trans HC1.out
  clear hown0 hgrow0 hbw3 e0
  go_wp2
  rw [rounds_succ]
  go_wp2_with (at_builtin; refine wpl_append_gen _ rfl _ _ 28 rfl w.heap.size 61 i0 (.agg #[.int .i64 0, .int .i64 0]) 2 16 Try.underlying28 hi hz0 hz1 hz2 rfl (by decide) v1 (n) (fasCells l) rfl HOw3.out b m d (fasCells k) rfl HLm.out (HSm.out _ HBw3.out) (fasCells_one k) (by have := HM.out; unfold maxLen; omega) (by have := HM.out; omega) HBw3.out.size ?_)
  intro v2 w4 hown1 hgrow1
  have hbw4 : Below w.heap.size w w4 := HBw3.out.grown hgrow1 HBw3.out.size fun k hk => (HOw3.out.lt k hk).1
  have HBw4 := Lib.hid hbw4
  have HOw4 := Lib.hid (show w4.ownsRow w.heap.size 61 2 v2 (n + m) ((fasCells l) ++ fasCells k) by exact hown1)
  clear hown1 hgrow1 hbw4 e1
  go_wp2
  rw [rounds_succ]
  go_wp2
  go_ret
  refine ⟨⟨_, rfl, ?_⟩, HBw4.out⟩
  have h := HOw4.out
  simpa [fasCells_app] using h
end Go.Proofs.Ytgjkobkcmgliaaa
namespace Go.Proofs.Ytgjkobkcmgliaaa
open Go.RowKit

set_option maxRecDepth 100000 in
set_option maxHeartbeats 4000000 in
theorem empty_go (x y : Int) (w : World) : Calls Try.prog 69 #[.agg #[.int .i64 x, .int .i64 y]] w fun e w' => e = .returned (.bool (decide (y = 255))) ∧ Below w.heap.size w w' := by
  by_cases h : y = 255
  · subst h
    go_enter Try.func69, Try.ntmps69
    go_wp2
    go_ret
    exact ⟨rfl, (Below.refl _ _).alloc (Nat.le_refl _) _⟩
  · have h2 : (y == 255) = false := by simp [h]
    have H := Lib.hid h
    clear h
    go_enter Try.func69, Try.ntmps69
    go_wp2
    go_ret
    exact ⟨retb (decide_eq_false H.out).symm, (Below.refl _ _).alloc (Nat.le_refl _) _⟩
/-- the first that states nothing -/
def FstE (n : Nat) (l : List (Int × Int)) (r : Int) : Prop :=
  (r = -1 ∧ ∀ j, j < n → (l.getD j fa0).2 ≠ 255) ∨ ∃ i : Nat, i < n ∧ r = i ∧ (l.getD i fa0).2 = 255 ∧ ∀ j, j < i → (l.getD j fa0).2 ≠ 255

set_option maxRecDepth 100000 in
set_option maxHeartbeats 8000000 in
theorem findex_go (B n c : Nat) (a : Option Addr) (l : List (Int × Int)) (w : World) (hn : n = l.length) (hm : n ≤ 100000) (hl : FaB B w (.slice a n c) l) :
    Calls Try.prog 89 #[.slice a n c, .func (.func 69) #[] #[]] w fun e w' => (∃ r, e = .returned (.int .i64 r) ∧ FstE n l r) ∧ Below w.heap.size w w' := by
  have HN := Lib.hid hn
  have HF := Lib.hid hl
  clear hn hl
  go_enter Try.func89, Try.ntmps89
  go_wp2
  go_loopw [8] (fun iv wr => ∃ k : Nat, k ≤ n ∧ iv = .int .i64 k ∧ Hid (∀ j, j < k → (l.getD j fa0).2 ≠ 255) ∧ Hid (Below w.heap.size w wr)) (fun iv _ => n - (intOf iv).toNat)
  case atStart => exact ⟨0, Nat.zero_le _, rfl, Lib.hid (fun j h => by omega), Lib.hid (Below.refl _ _)⟩
  case round =>
    obtain ⟨k, hk, rfl, HNE, HB⟩ := hrel
    by_cases hlt : k < n
    · have hkl : k < l.length := by rw [← HN.out]; exact hlt
      obtain ⟨q, off, rfl, _, hq, c0, c1⟩ := HF.out.get hkl
      have e0 := (HB.out.cell (p := ⟨q, _, none⟩) hq).trans c0
      have e1 := (HB.out.cell (p := ⟨q, _, none⟩) hq).trans c1
      obtain ⟨x, hx⟩ : ∃ x, x = (l.getD k fa0).1 := ⟨_, rfl⟩
      obtain ⟨y, hy⟩ : ∃ y, y = (l.getD k fa0).2 := ⟨_, rfl⟩
      rw [← hx] at e0
      rw [← hy] at e1
      have HY := Lib.hid hy
      have hc := empty_go x y wr
      have h0 : (0 : Int) ≤ (k : Int) := Int.natCast_nonneg _
      have h1 : (k : Int) < (n : Int) := by omega
      by_cases h255 : y = 255
      · rw [show decide (y = 255) = true by simp [h255]] at hc
        have HC := Lib.hid hc
        have H5 := Lib.hid h255
        clear c0 c1 hkl hx hy hc h255
        go_wp2_with (go_at_call 69; refine HC.out.mono ?_; rintro e w1 ⟨rfl, hb1⟩)
        have HB1 := Lib.hid (HB.out.trans (hb1.mono HB.out.size))
        go_ret
        exact ⟨⟨_, rfl, .inr ⟨k, hlt, rfl, by rw [← HY.out]; exact H5.out, HNE.out⟩⟩, HB1.out⟩
      · rw [show decide (y = 255) = false by simp [h255]] at hc
        have HC := Lib.hid hc
        have H5 := Lib.hid h255
        clear c0 c1 hkl hx hy hc h255
        go_wp2_with (go_at_call 69; refine HC.out.mono ?_; rintro e w1 ⟨rfl, hb1⟩)
        have HB1 := Lib.hid (HB.out.trans (hb1.mono HB.out.size))
        go_roundw
        case rel =>
          refine ⟨k + 1, by omega, by go_num, Lib.hid fun j hj => ?_, HB1⟩
          by_cases e : j = k
          · rw [e, ← HY.out]; exact H5.out
          · exact HNE.out j (by omega)
        case measure => simp [intOf]; omega
    · have hkn : k = n := by omega
      have HE := Lib.hid (show ∀ j, j < n → (l.getD j fa0).2 ≠ 255 by rw [← hkn]; exact HNE.out)
      clear hkn
      go_wp2
      go_ret
      exact ⟨⟨_, rfl, .inl ⟨rfl, HE.out⟩⟩, HB.out⟩
/-- a fact of the row is written over -/
theorem own_set2 {w : World} {B e g cap n i : Nat} {L : List (Int × Int)} (hL : L.length = n) (hi : i < n) (h : w.ownsRow B e 2 (.slice (some ⟨g, 0, none⟩) n cap) n (fasCells L)) (x y : Int) :
    ((w.setCell ⟨g, i * 2, none⟩ (.int .i64 x)).setCell ⟨g, i * 2 + 1, none⟩ (.int .i64 y)).ownsRow B e 2 (.slice (some ⟨g, 0, none⟩) n cap) n (fasCells (L.set i (x, y))) := by
  obtain ⟨cur, hb, hg, hnc, hcm, hcs, ht⟩ : ∃ cur, B ≤ g ∧ w.heap[g]? = some (.cells cur e (0, 0)) ∧ n ≤ cap ∧ cap ≤ maxLen ∧ cur.size = cap * 2 ∧ cur.toList.take (n * 2) = fasCells L := by
    rcases h.2 with ⟨h, _⟩ | ⟨g', cap', cur, hv, hb, hg, r⟩
    · cases h
    · cases hv; exact ⟨cur, hb, hg, r⟩
  refine ⟨by rw [fasCells_len]; simp [hL], .inr ⟨g, cap, (cur.setIfInBounds (i * 2) (.int .i64 x)).setIfInBounds (i * 2 + 1) (.int .i64 y), rfl, hb, ?_, hnc, hcm, by simp [hcs], ?_⟩⟩
  · simp [World.setCell, Array.getElem?_modify, hg]
  · simp only [Array.toList_setIfInBounds, List.take_set, ht]
    have e1 : L = L.take i ++ L.getD i fa0 :: L.drop (i + 1) := by
      have e0 : L.getD i fa0 = L[i]'(by omega) := by simp [List.getD_eq_getElem?_getD, show i < L.length by omega]
      rw [e0, ← List.drop_eq_getElem_cons (by omega : i < L.length), List.take_append_drop]
    have e2 : L.set i (x, y) = L.take i ++ (x, y) :: L.drop (i + 1) := by rw [List.set_eq_take_append_cons_drop, if_pos (by omega)]
    have hl : (fasCells (L.take i)).length = i * 2 := by rw [fasCells_len, List.length_take, Nat.min_eq_left (by omega)]
    rw [e2]
    conv => lhs; rw [e1]
    rw [fasCells_app, fasCells_app]
    have e3 : ∀ f r, fasCells (f :: r) = .int .i64 f.1 :: .int .i64 f.2 :: fasCells r := fun f r => rfl
    rw [e3, e3, List.set_append, if_neg (by omega), hl, Nat.sub_self, List.set_cons_zero, List.set_append, if_neg (by omega), hl, show i * 2 + 1 - i * 2 = 1 by omega, List.set_cons_succ, List.set_cons_zero]
theorem own_cells {w : World} {B e g cap n j : Nat} {L : List (Int × Int)} (hj : j < L.length) (h : w.ownsRow B e 2 (.slice (some ⟨g, 0, none⟩) n cap) n (fasCells L)) :
    w.cell? ⟨g, j * 2, none⟩ = some (.int .i64 (L.getD j fa0).1) ∧ w.cell? ⟨g, j * 2 + 1, none⟩ = some (.int .i64 (L.getD j fa0).2) ∧ ∀ o, w.frozen? ⟨g, o, none⟩ = false := by
  have hc := @World.ownsRow.cells _ _ _ _ _ _ _ h
  obtain ⟨h1, h2⟩ := fasCells_get L j hj
  have g1 := hc (g := g) rfl _ _ h1
  have g2 := hc (g := g) rfl _ _ h2
  rw [add_none] at g1 g2
  refine ⟨g1, g2, fun o => ?_⟩
  rcases h.2 with ⟨h, _⟩ | ⟨g', cap', cur, hv, hb, hg, r⟩
  · cases h
  · cases hv; exact Lib.frozen_of_heap hg o
/-- what lies behind the row's end does not count -/
theorem own_past {w : World} {B e g cap n p : Nat} {xs : List Value} (h : w.ownsRow B e 2 (.slice (some ⟨g, 0, none⟩) n cap) n xs) (hp : n * 2 ≤ p) (x : Value) : (w.setCell ⟨g, p, none⟩ x).ownsRow B e 2 (.slice (some ⟨g, 0, none⟩) n cap) n xs := by
  rcases h.2 with ⟨h, _⟩ | ⟨g', cap', cur, hv, hb, hg, hnc, hcm, hcs, ht⟩
  · cases h
  · cases hv
    refine ⟨h.1, .inr ⟨g, cap, cur.setIfInBounds p x, rfl, hb, ?_, hnc, hcm, by simp [hcs], ?_⟩⟩
    · simp [World.setCell, Array.getElem?_modify, hg]
    · rw [Array.toList_setIfInBounds, List.take_set_of_le hp, ht]
theorem own_pasts {B e g cap n : Nat} {xs : List Value} : ∀ (zs : List Value) (p : Nat) (w : World), w.ownsRow B e 2 (.slice (some ⟨g, 0, none⟩) n cap) n xs → n * 2 ≤ p → (w.setCells g p zs).ownsRow B e 2 (.slice (some ⟨g, 0, none⟩) n cap) n xs
  | [], _, _, h, _ => h
  | z :: r, p, w, h, hp => own_pasts r (p + 1) (w.setCell ⟨g, p, none⟩ z) (own_past h hp z) (by omega)
theorem but_sets {r : Nat} {w0 : World} : ∀ (zs : List Value) (p : Nat) (w : World), But r w0 w → But r w0 (w.setCells r p zs)
  | [], _, _, h => h
  | z :: r', p, w, h => but_sets r' (p + 1) (w.setCell ⟨r, p, none⟩ z) (h.set p z)
theorem run_clear2 {P : Program} (w : World) (t e ty : TypeId) (z : Value) (ht : P.underlying t = some (.slice e)) (hv : ∀ w, (zeroValue e).run P w = .ok z w) (hz : z.cells.size = 2) (h1 : ∀ u ∈ z.cells.toList, u.oneCell' = true) (b o n c : Nat) (hn : 0 < n)
    (hc : ∀ j, j < n * 2 → (w.cell? ⟨b, o + j, none⟩).isSome = true) (hf : ∀ j, j < n * 2 → w.frozen? ⟨b, o + j, none⟩ = false) :
    (Builtin.clear_ #[t] ty #[.slice (some ⟨b, o, none⟩) n c]).run P w = .ok (.tuple #[]) (w.setCells b o (Builtin.zeroCells z.cells n).toList) := by
  have hl : (Builtin.zeroCells z.cells n).toList.length = n * 2 := by
    rw [Array.length_toList]; unfold Builtin.zeroCells; rw [Array.size_map, Array.size_range, hz]
  have hone : ∀ u ∈ (Builtin.zeroCells z.cells n).toList, u.oneCell' = true := by
    intro u hu
    unfold Builtin.zeroCells at hu
    rw [Array.mem_toList_iff, Array.mem_map] at hu
    obtain ⟨j, hj, rfl⟩ := hu
    have hm : j % z.cells.size < z.cells.size := Nat.mod_lt _ (by omega)
    refine h1 _ ?_
    rw [Array.mem_toList_iff]
    simp [hm]
  have hst := run_storeCells_cells (P := P) b o (Builtin.zeroCells z.cells n).toList 0 w (by rw [hl]; simpa using hc) (by rw [hl]; simpa using hf) hone
  simp only [Nat.add_zero] at hst
  obtain ⟨m, rfl⟩ : ∃ m, n = m + 1 := ⟨n - 1, by omega⟩
  simp [Builtin.clear_, run_underlying ht, hv, hst]
end Go.Proofs.Ytgjkobkcmgliaaa
namespace Go.Proofs.Ytgjkobkcmgliaaa
open Go.RowKit

theorem dropF_take (l : List (Int × Int)) (j : Nat) (h : j < l.length) : dropF (l.take (j + 1)) = if (l.getD j fa0).2 = 255 then dropF (l.take j) else dropF (l.take j) ++ [l.getD j fa0] := by
  have e0 : l.getD j fa0 = l[j] := by simp [List.getD_eq_getElem?_getD, h]
  unfold dropF
  rw [List.take_succ_eq_append_getElem h, List.filter_append, e0]
  by_cases hv : l[j].2 = 255 <;> simp [hv]
theorem dropF_all {l : List (Int × Int)} (h : ∀ j, j < l.length → (l.getD j fa0).2 ≠ 255) : dropF l = l := by
  unfold dropF
  refine List.filter_eq_self.2 fun f hf => ?_
  obtain ⟨j, hj, rfl⟩ := List.getElem_of_mem hf
  have := h j hj
  rw [List.getD_eq_getElem?_getD, List.getElem?_eq_getElem hj] at this
  simpa using this
/-- the row while it is gone through -/
def DelRel (B g cap n : Nat) (l : List (Int × Int)) (w : World) (iv jv : Value) (wr : World) : Prop :=
  ∃ (i j : Nat) (L : List (Int × Int)), i < j ∧ j ≤ n ∧ iv = .int .i64 i ∧ jv = .int .i64 j ∧ Hid (L.length = n) ∧ Hid (wr.ownsRow B 61 2 (.slice (some ⟨g, 0, none⟩) n cap) n (fasCells L)) ∧
    Hid (L.take i = dropF (l.take j)) ∧ Hid (∀ k, j ≤ k → k < n → L.getD k fa0 = l.getD k fa0) ∧ Hid (But g w wr)
theorem getD_set {L : List (Int × Int)} {i k : Nat} (f : Int × Int) (h : i ≠ k) : (L.set i f).getD k fa0 = L.getD k fa0 := by
  simp [List.getD_eq_getElem?_getD, h]
theorem del_keep {B g cap n i j : Nat} {l L : List (Int × Int)} {w wr w1 : World} {iv jv : Value} {x y : Int} (hij : i < j) (hj : j < n) (hn : n = l.length) (hL : L.length = n) (ho : wr.ownsRow B 61 2 (.slice (some ⟨g, 0, none⟩) n cap) n (fasCells L)) (ht : L.take i = dropF (l.take j))
    (hk : ∀ k, j ≤ k → k < n → L.getD k fa0 = l.getD k fa0) (hB : But g w wr) (hb1 : Below wr.heap.size wr w1) (hx : l.getD j fa0 = (x, y)) (hy : y ≠ 255) (hiv : iv = .int .i64 ((i + 1 : Nat) : Int)) (hjv : jv = .int .i64 ((j + 1 : Nat) : Int)) :
    DelRel B g cap n l w iv jv ((w1.setCell ⟨g, i * 2, none⟩ (.int .i64 x)).setCell ⟨g, i * 2 + 1, none⟩ (.int .i64 y)) := by
  refine ⟨i + 1, j + 1, L.set i (x, y), by omega, by omega, hiv, hjv, Lib.hid (by simpa using hL), Lib.hid ?_, Lib.hid ?_, Lib.hid ?_, Lib.hid ?_⟩
  · exact own_set2 hL (by omega) (own_block ho fun g' hg' => by cases hg'; exact hb1.block _ (own_some_lt ho).2) x y
  · rw [dropF_take l j (by omega), hx, if_neg hy, ← ht, List.set_eq_take_append_cons_drop, if_pos (by omega), List.take_append, List.length_take, Nat.min_eq_left (by omega), Nat.add_sub_cancel_left, List.take_of_length_le (by simp; omega)]
    rfl
  · intro k h1 h2
    rw [getD_set _ (by omega)]
    exact hk k (by omega) h2
  · exact ((hB.then hb1).set _ _).set _ _
theorem del_skip {B g cap n i j : Nat} {l L : List (Int × Int)} {w wr w1 : World} {iv jv : Value} {x y : Int} (hij : i < j) (hj : j < n) (hn : n = l.length) (hL : L.length = n) (ho : wr.ownsRow B 61 2 (.slice (some ⟨g, 0, none⟩) n cap) n (fasCells L)) (ht : L.take i = dropF (l.take j))
    (hk : ∀ k, j ≤ k → k < n → L.getD k fa0 = l.getD k fa0) (hB : But g w wr) (hb1 : Below wr.heap.size wr w1) (hx : l.getD j fa0 = (x, y)) (hy : y = 255) (hiv : iv = .int .i64 (i : Int)) (hjv : jv = .int .i64 ((j + 1 : Nat) : Int)) :
    DelRel B g cap n l w iv jv w1 := by
  refine ⟨i, j + 1, L, by omega, by omega, hiv, hjv, Lib.hid hL, Lib.hid ?_, Lib.hid ?_, Lib.hid fun k h1 h2 => hk k (by omega) h2, Lib.hid (hB.then hb1)⟩
  · exact own_block ho fun g' hg' => by cases hg'; exact hb1.block _ (own_some_lt ho).2
  · rw [dropF_take l j (by omega), hx, if_pos hy, ← ht]
theorem own_pop2 {w : World} {B e sz g cap n : Nat} {xs ys : List Value} (h : w.ownsRow B e sz (.slice (some ⟨g, 0, none⟩) n cap) n (xs ++ ys)) (k : Nat) (hk : k ≤ n) (hx : xs.length = k * sz) : w.ownsRow B e sz (.slice (some ⟨g, 0, none⟩) k cap) k xs := by
  rcases h.2 with ⟨h, _⟩ | ⟨g', cap', cur, hv, hb, hg, hnc, hcm, hcs, ht⟩
  · cases h
  · cases hv
    refine ⟨hx, .inr ⟨g, cap, cur, rfl, hb, hg, by omega, hcm, hcs, ?_⟩⟩
    have e : cur.toList.take (k * sz) = (cur.toList.take (n * sz)).take (k * sz) := by
      rw [List.take_take, Nat.min_eq_left (Nat.mul_le_mul_right _ hk)]
    rw [e, ht, ← hx, List.take_left]
theorem del_kept {B g cap n i j : Nat} {l L : List (Int × Int)} {wr : World} (hj : j = n) (hi : i < n) (hn : n = l.length) (hL : L.length = n) (ho : wr.ownsRow B 61 2 (.slice (some ⟨g, 0, none⟩) n cap) n (fasCells L)) (ht : L.take i = dropF (l.take j)) :
    i = (dropF l).length ∧ wr.ownsRow B 61 2 (.slice (some ⟨g, 0, none⟩) i cap) i (fasCells (dropF l)) := by
  rw [hj, hn, List.take_length] at ht
  have hl : (dropF l).length = i := by rw [← ht, List.length_take]; omega
  refine ⟨hl.symm, own_pop2 (n := n) (ys := fasCells (L.drop i)) ?_ i (by omega) (by rw [fasCells_len, hl])⟩
  rw [← ht, ← fasCells_app, List.take_append_drop]
  exact ho
/-- what is left of a row of the call's own -/
def DelPost (B : Nat) (l : List (Int × Int)) (w : World) (e : Ending) (w' : World) : Prop := (∃ v, e = .returned v ∧ FaB B w' v (dropF l)) ∧ Below B w w'

set_option maxRecDepth 100000 in
set_option maxHeartbeats 16000000 in
theorem fdel_some (B g cap n : Nat) (l : List (Int × Int)) (w : World) (hn : n = l.length) (hm : n ≤ 100000) (hBw : B ≤ w.heap.size) (ho : w.ownsRow B 61 2 (.slice (some ⟨g, 0, none⟩) n cap) n (fasCells l)) :
    Calls Try.prog 68 #[.slice (some ⟨g, 0, none⟩) n cap, .func (.func 69) #[] #[]] w (DelPost B l w) := by
  have hfa : FaB B w (.slice (some ⟨g, 0, none⟩) n cap) l := FaB.of_own (e := 61) (by rw [← hn]; exact ho) (by rw [← hn]; unfold maxLen; omega)
  have hgl := own_some_lt ho
  have hcap := own_cap ho
  have HIX := Lib.hid (findex_go B n cap _ l w hn hm hfa)
  have HN := Lib.hid hn
  have HO := Lib.hid ho
  have HFA := Lib.hid hfa
  have hg2 := hgl.2
  have HGL := Lib.hid hgl
  have HBW := Lib.hid hBw
  have hc1 : (n : Int) ≤ (cap : Int) := by omega
  have HCAP := Lib.hid hcap
  clear hn ho hfa hgl hBw hcap
  go_enter Try.func68, Try.ntmps68
  go_wp2_with fail
  refine HIX.out.mono ?_
  rintro e w1 ⟨⟨r, rfl, hr⟩, hb1⟩
  have HB1 := Lib.hid hb1
  have hg3 : g < w1.heap.size := Nat.lt_of_lt_of_le hg2 hb1.size
  rcases hr with ⟨rfl, hall⟩ | ⟨i0, hi0, rfl, hy0, hall⟩
  · have HD := Lib.hid (show FaB B w1 (.slice (some ⟨g, 0, none⟩) n cap) (dropF l) by rw [dropF_all (by rw [← HN.out]; exact hall)]; exact HFA.out.below hb1)
    clear hall hb1
    go_wp2
    go_ret
    exact ⟨⟨_, rfl, HD.out⟩, HB1.out.mono HBW.out⟩
  · have HST := Lib.hid (show DelRel B g cap n l w (.int .i64 (i0 : Int)) (.int .i64 ((i0 : Int) + 1)) w1 from
      ⟨i0, i0 + 1, l, by omega, by omega, rfl, by go_num, Lib.hid HN.out.symm, Lib.hid (own_block HO.out fun g' hg' => by cases hg'; exact hb1.block _ hg2), Lib.hid (by
        have hi1 : i0 < l.length := by rw [← HN.out]; exact hi0
        rw [dropF_take l i0 hi1, if_pos hy0, dropF_all fun j hj => ?_]
        have hj2 : j < i0 := by simp at hj; omega
        have := hall j hj2
        rw [List.getD_eq_getElem?_getD, List.getElem?_take_of_lt hj2]
        rwa [List.getD_eq_getElem?_getD] at this), Lib.hid (fun _ _ _ => rfl), Lib.hid ((But.refl g w).then hb1)⟩)
    have hne : ((i0 : Int) == -1) = false := by rw [beq_eq_false_iff_ne]; omega
    have b0 : (i0 : Int) < (n : Int) := by omega
    have bn : (n : Int) ≤ 100000 := by omega
    have HHM := Lib.hid hm
    clear hall hb1 hy0 hi0 HIX
    go_wp2
    go_loopw [5, 6] (fun iv jv wr => DelRel B g cap n l w iv jv wr) (fun _ jv _ => n - (intOf jv).toNat)
    case atStart => exact HST.out
    case round =>
      obtain ⟨i, j, L, hij, hjn, rfl, rfl, HLL, HOW, HTK, HKK, HBU⟩ := hrel
      have hgw : g < wr.heap.size := (own_some_lt HOW.out).2
      have k0 : (0 : Int) ≤ (i : Int) := Int.natCast_nonneg _
      have k1 : (0 : Int) ≤ (j : Int) := Int.natCast_nonneg _
      have k2 : (i : Int) < (j : Int) := by omega
      by_cases hlt : j < n
      · have hjl : j < L.length := by rw [HLL.out]; exact hlt
        have hil : i < L.length := by omega
        obtain ⟨x, hx⟩ : ∃ x, x = (L.getD j fa0).1 := ⟨_, rfl⟩
        obtain ⟨y, hy⟩ : ∃ y, y = (L.getD j fa0).2 := ⟨_, rfl⟩
        have HXY := Lib.hid (show l.getD j fa0 = (x, y) by rw [← HKK.out j (Nat.le_refl _) hlt, hx, hy])
        obtain ⟨c0, c1, cf⟩ := own_cells hjl HOW.out
        rw [← hx] at c0
        rw [← hy] at c1
        have k3 : (j : Int) < (n : Int) := by omega
        have k4 : (i : Int) < (n : Int) := by omega
        obtain ⟨W, hW⟩ : ∃ W, W = wr.alloc (.cells #[.int .i64 x, .int .i64 y] 61) := ⟨_, rfl⟩
        have hbW : Below wr.heap.size wr W := by rw [hW]; exact (Below.refl _ _).alloc (Nat.le_refl _) _
        have hbx : Bx W wr.heap.size 61 #[.int .i64 x, .int .i64 y] := by rw [hW]; exact Bx.made _ _ _
        have HE := Lib.hid (empty_go x y W)
        have HBX := Lib.hid hbx
        have HBWW := Lib.hid hbW
        have HW := Lib.hid hW
        clear hx hy hbW hbx hW cf
        by_cases h255 : y = 255
        · have hc := HE.out
          rw [show decide (y = 255) = true by simp [h255]] at hc
          have HC := Lib.hid hc
          have H5 := Lib.hid h255
          clear hc h255 hjl hil
          go_wp2_with fail
          rw [← HW.out]
          refine HC.out.mono ?_
          rintro e w2 ⟨rfl, hb2⟩
          have HB2 := Lib.hid (HBWW.out.trans (hb2.mono HBWW.out.size))
          clear hb2
          go_wp2
          exact ⟨del_skip hij hlt HN.out HLL.out HOW.out HTK.out HKK.out HBU.out HB2.out HXY.out H5.out rfl (by go_num), by simp [intOf]; omega⟩
        · have hc := HE.out
          rw [show decide (y = 255) = false by simp [h255]] at hc
          have HC := Lib.hid hc
          have H5 := Lib.hid h255
          have HIL := Lib.hid hil
          clear hc h255 hjl hil
          go_wp2_with fail
          rw [← HW.out]
          refine HC.out.mono ?_
          rintro e w2 ⟨rfl, hb2⟩
          have HB2 := Lib.hid (HBWW.out.trans (hb2.mono HBWW.out.size))
          have hbx2 := HBX.out.keep hb2
          have x0 := hbx2.c0
          have x1 := hbx2.c1
          have how2 := own_block HOW.out (w' := w2) fun g' hg' => by cases hg'; exact HB2.out.block _ hgw
          obtain ⟨s0, s1, sf⟩ := own_cells HIL.out how2
          have f0 := sf (i * 2)
          have f1 := sf (i * 2 + 1)
          have hne2 : g ≠ wr.heap.size := by omega
          clear hb2 hbx2 how2 sf
          go_wp2
          exact ⟨del_keep hij hlt HN.out HLL.out HOW.out HTK.out HKK.out HBU.out HB2.out HXY.out H5.out (by go_num) (by go_num), by simp [intOf]; omega⟩
      · have hjn2 : j = n := by omega
        have hin : i < n := by omega
        have hcap := HCAP.out
        have HKEEP := Lib.hid (del_kept hjn2 hin HN.out HLL.out HOW.out HTK.out)
        have hcl : ∀ ty, (Builtin.clear_ #[28] ty #[.slice (some ⟨g, i * 2, none⟩) (n - i) (cap - i)]).run Try.prog wr = .ok (.tuple #[]) (wr.setCells g (i * 2) (Builtin.zeroCells (Value.agg #[.int .i64 0, .int .i64 0]).cells (n - i)).toList) :=
          fun ty => run_clear2 wr _ _ ty _ Try.underlying28 Try.zeroValue61 rfl (by simp [Value.cells, Value.oneCell']) g (i * 2) (n - i) _ (by omega) (fun q hq => by
              obtain ⟨s0, s1, _⟩ := own_cells (j := (i * 2 + q) / 2) (by rw [HLL.out]; omega) HOW.out
              rcases (by omega : i * 2 + q = (i * 2 + q) / 2 * 2 ∨ i * 2 + q = (i * 2 + q) / 2 * 2 + 1) with e | e
              · rw [e, s0]; rfl
              · rw [e, s1]; rfl) (fun q _ => (own_cells (j := 0) (by rw [HLL.out]; omega) HOW.out).2.2 _)
        obtain ⟨zs, hzs⟩ : ∃ zs, zs = (Builtin.zeroCells (Value.agg #[.int .i64 0, .int .i64 0]).cells (n - i)).toList := ⟨_, rfl⟩
        rw [← hzs] at hcl
        have HFIN := Lib.hid (show FaB B (wr.setCells g (i * 2) zs) (.slice (some ⟨g, 0, none⟩) i cap) (dropF l) from FaB.of_own (e := 61) (by have h := own_pasts zs (i * 2) wr HKEEP.out.2 (Nat.le_refl _); rw [← HKEEP.out.1]; exact h) (by rw [← HKEEP.out.1]; have := HHM.out; unfold maxLen; omega))
        have HBF := Lib.hid (show Below B w (wr.setCells g (i * 2) zs) from (but_sets zs (i * 2) wr HBU.out).below HGL.out.1 HBW.out)
        have k5 : ¬ cap = i := by omega
        have k6 : (i : Int) ≤ (n : Int) := by omega
        have k7 : (i : Int) ≤ (cap : Int) := by omega
        have k8 : ¬ ((j : Int) < (n : Int)) := by omega
        clear hzs hjn2
        go_wp2
        go_ret
        exact ⟨⟨_, rfl, HFIN.out⟩, HBF.out⟩
end Go.Proofs.Ytgjkobkcmgliaaa
namespace Go.Proofs.Ytgjkobkcmgliaaa
open Go.RowKit

set_option maxRecDepth 100000 in
set_option maxHeartbeats 4000000 in
theorem fdel_none (w : World) : Calls Try.prog 68 #[.slice none 0 0, .func (.func 69) #[] #[]] w fun e w' => e = .returned (.slice none 0 0) ∧ Below w.heap.size w w' := by
  have HIX := Lib.hid (findex_go 0 0 0 none [] w rfl (by omega) (FaB.nil 0 w none 0))
  go_enter Try.func68, Try.ntmps68
  go_wp2_with fail
  refine HIX.out.mono ?_
  rintro e w1 ⟨⟨r, rfl, hr⟩, hb1⟩
  have HB1 := Lib.hid hb1
  rcases hr with ⟨rfl, _⟩ | ⟨i, hi, _⟩
  · clear hb1
    go_wp2
    go_ret
    exact ⟨rfl, HB1.out⟩
  · omega
/-- what states nothing leaves a row of the call's own -/
theorem fdel_go (B n : Nat) (v : Value) (l : List (Int × Int)) (w : World) (hn : n = l.length) (hm : n ≤ 100000) (hBw : B ≤ w.heap.size) (ho : w.ownsRow B 61 2 v n (fasCells l)) :
    Calls Try.prog 68 #[v, .func (.func 69) #[] #[]] w (DelPost B l w) := by
  rcases ho.2 with ⟨rfl, h0⟩ | ⟨g, cap, cur, rfl, _⟩
  · have e : l = [] := List.length_eq_zero_iff.1 (by omega)
    subst e
    exact (fdel_none w).mono fun e w' ⟨he, hb⟩ => ⟨⟨_, he, FaB.nil _ _ _ _⟩, hb.mono hBw⟩
  · exact fdel_some B g cap n l w hn hm hBw ho
theorem sort_go (B n : Nat) (v : Value) (l : List (Int × Int)) (w : World) (hn : n = l.length) (hm : n ≤ 100000) (hBw : B ≤ w.heap.size) (ho : w.ownsRow B 61 2 v n (fasCells l)) :
    Calls Try.prog 65 #[v, .func (.func 66) #[] #[]] w fun e w' => e = .returned (.tuple #[]) ∧ Below B w w' ∧ ∃ d, d.Perm l ∧ Sorted d ∧ w'.ownsRow B 61 2 v n (fasCells d) := by
  rcases ho.2 with ⟨rfl, h0⟩ | ⟨g, cap, cur, rfl, hg, _⟩
  · have e : l = [] := List.length_eq_zero_iff.1 (by omega)
    subst e h0
    have h := Go.Proofs.AnyF.slices_SortFunc_none Try.sortFa none 0 (.func (.func 66) #[] #[]) w
    change Calls Try.prog 65 _ _ _ at h
    refine h.mono fun e w' ⟨he, hw⟩ => ⟨he, ?_, [], List.Perm.refl _, List.Pairwise.nil, World.ownsRow_nil _ _ _ _⟩
    rw [hw]; exact Below.refl _ _
  · exact (sort_some B g n cap l w hn hm ho).mono fun e w' ⟨he, hb, hd⟩ => ⟨he, hb.below hg hBw, hd⟩
/-- the last one's tags are cut -/
theorem own_last2 {w : World} {B e g cap n : Nat} {a : List (Int × Int)} {x : Int × Int} (hn : n + 1 = (a ++ [x]).length) (h : w.ownsRow B e 2 (.slice (some ⟨g, 0, none⟩) (n + 1) cap) (n + 1) (fasCells (a ++ [x]))) (y : Int) :
    (w.setCell ⟨g, n * 2 + 1, none⟩ (.int .i64 y)).ownsRow B e 2 (.slice (some ⟨g, 0, none⟩) (n + 1) cap) (n + 1) (fasCells (a ++ [(x.1, y)])) := by
  have hl : (fasCells a).length = n * 2 := by rw [fasCells_len]; simp at hn; omega
  rcases h.2 with ⟨h, _⟩ | ⟨g', cap', cur, hv, hb, hg, hnc, hcm, hcs, ht⟩
  · cases h
  · cases hv
    refine ⟨by rw [fasCells_len]; simp at hn ⊢; omega, .inr ⟨g, cap, cur.setIfInBounds (n * 2 + 1) (.int .i64 y), rfl, hb, ?_, hnc, hcm, by simp [hcs], ?_⟩⟩
    · simp [World.setCell, Array.getElem?_modify, hg]
    · simp only [Array.toList_setIfInBounds, List.take_set, ht]
      rw [fasCells_snoc, fasCells_snoc, List.set_append, if_neg (by omega), hl, show n * 2 + 1 - n * 2 = 1 by omega]
      rfl
/-- the row that is being merged -/
def MgRel (N : Nat) (d : List (Int × Int)) (w0 : World) (ov iv : Value) (wr : World) : Prop :=
  ∃ (i n : Nat), i ≤ N ∧ iv = .int .i64 i ∧ n ≤ i ∧ Hid (n = (mergeF (d.take i)).length) ∧ Hid (wr.ownsRow w0.heap.size 61 2 ov n (fasCells (mergeF (d.take i)))) ∧ Hid (Below w0.heap.size w0 wr)
theorem take_get (l : List (Int × Int)) (i : Nat) (h : i < l.length) : l.take (i + 1) = l.take i ++ [l.getD i fa0] := by
  rw [List.take_succ_eq_append_getElem h]
  simp [List.getD_eq_getElem?_getD, h]
/-- what is known of the row's end -/
theorem mg_case (acc : List (Int × Int)) (f : Int × Int) (n : Nat) (hn : n = acc.length) : (n = 0 ∧ acc = [] ∧ merge1 acc f = acc ++ [(f.1, (lowN f.2 : Int))]) ∨
    ∃ a x, acc = a ++ [x] ∧ n = a.length + 1 ∧ merge1 acc f = if x.1 = f.1 then a ++ [(x.1, ((x.2.toNat &&& lowN f.2 : Nat) : Int))] else acc ++ [(f.1, (lowN f.2 : Int))] := by
  rcases List.eq_nil_or_concat acc with rfl | ⟨a, x, rfl⟩
  · exact .inl ⟨hn, rfl, rfl⟩
  · rw [List.concat_eq_append] at hn ⊢
    exact .inr ⟨a, x, rfl, by simpa using hn, merge1_snoc a x f⟩
theorem mg_end {N i n n' : Nat} {d acc : List (Int × Int)} {w0 w9 : World} {ov iv : Value} (hi : i < N) (hN : N = d.length) (hacc : acc = merge1 (mergeF (d.take i)) (d.getD i fa0)) (hni : n ≤ i) (hn' : n' ≤ n + 1) (hlen : n' = acc.length) (ho : w9.ownsRow w0.heap.size 61 2 ov n' (fasCells acc)) (hb : Below w0.heap.size w0 w9) (hiv : iv = .int .i64 ((i + 1 : Nat) : Int)) :
    MgRel N d w0 ov iv w9 ∧ N - (intOf iv).toNat < N - i := by
  have e : mergeF (d.take (i + 1)) = acc := by rw [take_get d i (by omega), mergeF_snoc, hacc]
  exact ⟨⟨i + 1, n', hi, hiv, by omega, Lib.hid (by rw [e]; exact hlen), Lib.hid (by rw [e]; exact ho), Lib.hid hb⟩, by rw [hiv]; simp [intOf]; omega⟩
end Go.Proofs.Ytgjkobkcmgliaaa
