import Derived.Test.YtgjkobkcmgliaaaNwL
import Derived.Lib.AppendZerosOnto
import Derived.LoopN
namespace Go.Proofs.Ytgjkobkcmgliaaa
open Go.RowKit

/-- an append of a slice, be it nil, onto a row of the call's own, be it nil -/
theorem run_append_gen {P : Program} (w : World) (base : Nat) (t ty e : TypeId) (i : TypeInfo) (z : Value) (size bytes : Nat) (ht : P.underlying t = some (.slice e)) (hi : P.info? e = some i) (hz : i.zero = some z)
    (hsize : i.size = size) (hby : i.bytes = bytes) (hzs : z.cells.size = size) (hsz : 0 < size)
    (v : Value) (n : Nat) (xs : List Value) (hown : w.ownsRow base e size v n xs)
    (ad : Option Addr) (m c : Nat) (news : List Value) (hl : news.length = m * size) (hnews : (m = 0 ∧ ad = none) ∨ ∃ a, ad = some a ∧ ∀ j u, news[j]? = some u → w.cell? (a.add j) = some u) (h1 : ∀ u ∈ news, u.oneCell' = true)
    (h63 : n + m ≤ maxLen) (hbytes : (n + m) * bytes ≤ 140737488355328) (hbase : base ≤ w.heap.size) :
    ∃ v' w', (Builtin.append_ #[t, t] ty #[v, .slice ad m c]).run P w = .ok v' w' ∧ w'.ownsRow base e size v' (n + m) (xs ++ news) ∧ w.grownBy w' v.ownBlock := by
  rcases hnews with ⟨rfl, rfl⟩ | ⟨a, rfl, hnews⟩
  · have hn : news = [] := List.eq_nil_of_length_eq_zero (by simpa using hl)
    subst hn
    rcases hown.2 with ⟨rfl, rfl⟩ | ⟨g, cap, cur, rfl, hb, hg, hr⟩
    · refine ⟨.slice none 0 0, w, ?_, by simpa using hown, ⟨rfl, rfl, rfl, Nat.le_refl _, fun _ _ _ => rfl⟩⟩
      simp [Builtin.append_, run_underlying ht, sizeOf, typeInfo, hi, Builtin.lenOf, Builtin.firstCells]
    · obtain ⟨g', cap', w', h1, h2, h3, _⟩ := run_append_onto (P := P) w base t ty e i z size bytes ht hi hz hsize hby hzs hsz g cap n xs hown none 0 c [] (by simp) (.inl ⟨rfl, rfl⟩) (by simp) h63 hbytes hbase w.heap.size rfl
      exact ⟨_, w', h1, h2, h3⟩
  · obtain ⟨v', w', hr, h2, h3, _⟩ := run_append_own_at (P := P) w base t ty e i z size bytes ht hi hz hsize hby hzs hsz v n xs hown a m c news hl hnews h1 h63 hbytes hbase
    exact ⟨v', w', hr, h2, h3⟩
theorem wpl_append_gen {P : Program} (w : World) {ops : Array Oper} {rest : List Oper} {o : Oper} {a : Act} {Q : Exit → Act → World → Prop} (hgd : o.guard = none) (s x : Operand) (t : TypeId)
    (ho : o.op = .call { callee := .builtin .append, args := #[s, x], argTypes := #[t, t] })
    (base e : Nat) (i : TypeInfo) (z : Value) (size bytes : Nat) (ht : P.underlying t = some (.slice e)) (hi : P.info? e = some i) (hz : i.zero = some z)
    (hsize : i.size = size) (hby : i.bytes = bytes) (hzs : z.cells.size = size) (hsz : 0 < size)
    (v : Value) (n : Nat) (xs : List Value) (hs : a.eval s = v) (hown : w.ownsRow base e size v n xs)
    (ad : Option Addr) (m c : Nat) (news : List Value) (hx : a.eval x = .slice ad m c) (hl : news.length = m * size) (hnews : (m = 0 ∧ ad = none) ∨ ∃ a, ad = some a ∧ ∀ j u, news[j]? = some u → w.cell? (a.add j) = some u) (h1 : ∀ u ∈ news, u.oneCell' = true)
    (h63 : n + m ≤ maxLen) (hbytes : (n + m) * bytes ≤ 140737488355328) (hbase : base ≤ w.heap.size)
    (h : ∀ v' w', w'.ownsRow base e size v' (n + m) (xs ++ news) → w.grownBy w' v.ownBlock → wpList P ops Q rest (a.put o.dst v') w') : wpList P ops Q (o :: rest) a w := by
  obtain ⟨v', w', hr, h2, h3⟩ := run_append_gen (P := P) w base t o.type e i z size bytes ht hi hz hsize hby hzs hsz v n xs hown ad m c news hl hnews h1 h63 hbytes hbase
  exact Lib.wpList_append_run w hgd s x t t ho v _ hs hx v' w' hr (h v' w' h2 h3)

/-- a slice of facts handed back -/
def SlPost (l : List (Int × Int)) (w : World) (e : Ending) (w' : World) : Prop := (∃ v, e = .returned v ∧ FaB w.heap.size w' v l) ∧ Below w.heap.size w w'

set_option maxRecDepth 100000 in
set_option maxHeartbeats 4000000 in
theorem fclone_go (B n c : Nat) (a : Option Addr) (l : List (Int × Int)) (w : World) (hn : n = l.length) (hm : n ≤ 100000) (hl : FaB B w (.slice a n c) l) :
    Calls Try.prog 84 #[.slice a n c] w (SlPost l w) := by
  obtain ⟨i0, hi, hz0, hz1, hz2⟩ := info_parts Try.infoFa
  have q22 : ∀ (w : World) (a : Option Addr) (n c n' c' : Nat), (binOp .eql 28 (.slice a n c) (.slice none n' c')).run Try.prog w = .ok (.bool a.isNone) w := fun w a n c n' c' => Lib.run_eql_slice_nil w _ _ a n c n' c' Try.underlying28
  cases a with
  | none =>
    rcases hl with ⟨rfl, _⟩ | ⟨b, off, cap, e, _⟩
    · go_enter Try.func84, Try.ntmps84
      go_wp2
      go_ret
      exact ⟨⟨_, rfl, FaB.nil _ _ _ _⟩, Below.refl _ _⟩
    · cases e
  | some ad =>
    have HS := Lib.hid (hl.src hn)
    have HL := Lib.hid (show (fasCells l).length = n * 2 by rw [fasCells_len, hn])
    have HN := Lib.hid hn
    have HM := Lib.hid (show l.length ≤ maxLen by rw [← hn]; unfold maxLen; omega)
    clear hl hn
    go_enter Try.func84, Try.ntmps84
    go_wp2_with (at_builtin; refine wpl_append_gen _ rfl _ _ 28 rfl w.heap.size 61 i0 (.agg #[.int .i64 0, .int .i64 0]) 2 16 Try.underlying28 hi hz0 hz1 hz2 rfl (by decide) _ 0 [] rfl (World.ownsRow_made w #[] 0 (Nat.le_refl _) (Nat.zero_le _) rfl) (some ad) n c (fasCells l) rfl HL.out (HS.out _ ((Below.refl _ _).alloc (Nat.le_refl _) _)) (fasCells_one l) (by unfold maxLen; omega) (by omega) (by simp) ?_)
    intro v' w1 hown hgrow
    have hbl : Below w.heap.size w w1 := ((Below.refl _ w).alloc (Nat.le_refl _) _).grown hgrow (by simp) (by intro k hk; simp [Value.ownBlock] at hk; omega)
    have HF := Lib.hid (show FaB w.heap.size w1 v' l from FaB.of_own (e := 61) (by rw [← HN.out]; simpa using hown) HM.out)
    have HB := Lib.hid hbl
    clear hown hgrow hbl
    go_wp2
    go_ret
    exact ⟨⟨_, rfl, HF.out⟩, HB.out⟩

set_option maxRecDepth 100000 in
set_option maxHeartbeats 8000000 in
theorem fgrow_go (n : Nat) (w : World) (hb : n ≤ 100000) :
    Calls Try.prog 85 #[.slice none 0 0, .int .i64 n] w fun e w' => (∃ v, e = .returned v ∧ w'.ownsRow w.heap.size 61 2 v 0 []) ∧ Below w.heap.size w w' := by
  by_cases h0 : n = 0
  · subst h0
    go_enter Try.func85, Try.ntmps85
    go_wp2
    go_ret
    exact ⟨⟨_, rfl, World.ownsRow_nil _ _ _ _⟩, Below.refl _ _⟩
  have h0 : 0 < n := by omega
  obtain ⟨i0, hi, hz0, hz1, hz2⟩ := info_parts Try.infoFa
  have h1 : ¬ ((n : Int) < 0) := by omega
  have h4 : (0 : Int) < (n : Int) := by omega
  have hold : (Builtin.firstCells i0.size 0 (.slice none 0 0)).run Try.prog w.drew = .ok (([] : List Value).toArray) w.drew := run_firstCells_none w.drew i0.size 0 0 0
  have hrz : ∀ ty, (Builtin.append_ #[28, 3] ty #[.slice none 0 0, .int .i64 (n : Int)]).run Try.prog w =
      .ok (.slice (some ⟨w.heap.size, 0, none⟩) n (grownCap w n 0 61)) (w.drew.alloc (.cells (([] : List Value).toArray ++ Builtin.zeroCells (Value.agg #[.int .i64 0, .int .i64 0]).cells n ++ Builtin.zeroCells (Value.agg #[.int .i64 0, .int .i64 0]).cells (grownCap w n 0 61 - n)) 61)) := fun ty => by
    have h := Lib.run_append_grow_zeros w 28 3 ty 61 i0 _ .i64 .i64 Try.underlying28 Try.underlying3 hi hz0 none 0 0 [] hold n h0 (by omega) (by omega) (by omega)
      (by rw [hz2]; omega) (by rw [Nat.zero_add]; exact growslice_fits h0 (by rw [hz2]; omega))
    rw [Nat.zero_add] at h
    exact h
  have hGn : n ≤ grownCap w n 0 61 := grownCap_ge w _ _ _
  have hG63 : grownCap w n 0 61 ≤ maxLen := grownCap_le_maxLen w n 0 61 (by unfold maxLen; omega)
  have hsz : ∀ k, (Builtin.zeroCells (Value.agg #[.int .i64 0, .int .i64 0]).cells k).size = k * 2 := fun k => by
    unfold Builtin.zeroCells; rw [Array.size_map, Array.size_range]; rfl
  obtain ⟨G, hG⟩ : ∃ G, G = grownCap w n 0 61 := ⟨_, rfl⟩
  rw [← hG] at hrz hGn hG63
  obtain ⟨cur, hcur⟩ : ∃ cur, cur = ([] : List Value).toArray ++ Builtin.zeroCells (Value.agg #[.int .i64 0, .int .i64 0]).cells n ++ Builtin.zeroCells (Value.agg #[.int .i64 0, .int .i64 0]).cells (G - n) := ⟨_, rfl⟩
  rw [← hcur] at hrz
  have hcs : cur.size = G * 2 := by rw [hcur]; simp only [Array.size_append, hsz]; simp; omega
  have HO := Lib.hid (World.ownsRow_made (base := w.heap.size) (e := 61) (size := 2) w.drew cur G (Nat.le_refl _) hG63 hcs)
  have HB := Lib.hid (show Below w.heap.size w (w.drew.alloc (.cells cur 61)) from (Below.refl _ _).drew.alloc (Nat.le_refl _) _)
  have HGN := Lib.hid hGn
  have hG2 : (G : Int) ≤ 9223372036854775807 := by unfold maxLen at hG63; omega
  clear hold hG hcur hcs hsz hGn hG63
  go_enter Try.func85, Try.ntmps85
  go_wp2_with (at_builtin; refine Lib.wpList_append_run _ rfl _ _ _ _ rfl _ _ rfl rfl _ _ (hrz _) ?_)
  go_ret
  have h2 := HB.out
  have h3 := HO.out
  exact ⟨⟨_, rfl, by first | exact h3 | simpa using h3⟩, by first | exact h2 | simpa using h2⟩
end Go.Proofs.Ytgjkobkcmgliaaa
