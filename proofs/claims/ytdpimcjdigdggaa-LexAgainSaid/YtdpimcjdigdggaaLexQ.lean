import Derived.Test.YtdpimcjdigdggaaLexO
import Derived.Deep.RegionHeld3
import Derived.Deep.AppendLies
import Derived.Laws.Pointers
import Derived.OwnWalk
import Derived.StillTactics
namespace Go.Proofs.Ytdpimcjdigdggaa
open Go.RowKit

set_option maxRecDepth 100000 in
set_option maxHeartbeats 4000000 in
theorem to_own_some (b off cap : Nat) (l : List Tok) (w : World) (hb : b < w.heap.size) (hm : l.length ≤ 100000)
    (hc : ∀ j, j < l.length → w.cell? ⟨b, off + j * 3, none⟩ = some (.int .i64 (l.getD j tok0).kind) ∧ w.cell? ⟨b, off + j * 3 + 1, none⟩ = some (.string (l.getD j tok0).text) ∧ w.cell? ⟨b, off + j * 3 + 2, none⟩ = some (.int .i64 (l.getD j tok0).pos)) :
    Calls Try.prog 13 #[.slice (some ⟨b, off, none⟩) l.length cap] w fun e w' => (∃ v, e = .returned v ∧ w'.ownsRow w.heap.size 44 3 v l.length (toksCells l)) ∧ Below w.heap.size w w' := by
  obtain ⟨i0, hi, hz0, hz1, hz2⟩ := info_parts Try.infoRefTok
  have HC := Lib.hid hc
  clear hc
  obtain ⟨n, hn⟩ : ∃ n, n = l.length := ⟨_, rfl⟩
  rw [← hn] at hm ⊢
  have HN := Lib.hid hn
  clear hn
  go_enter Try.func13, Try.ntmps13
  go_wp2
  go_loopw [3, 4] (fun v i wr => ∃ k : Nat, k ≤ n ∧ i = .int .i64 k ∧ wr.ownsRow w.heap.size 44 3 v k (toksCells (l.take k)) ∧ Hid (Below w.heap.size w wr) ∧ w.heap.size ≤ wr.heap.size) (fun _ i _ => n - (intOf i).toNat)
  case atStart => exact ⟨0, Nat.zero_le _, rfl, World.ownsRow_nil _ _ _ _, Lib.hid (Below.refl _ _), Nat.le_refl _⟩
  case round =>
    obtain ⟨k, hk, rfl, hown, HB, hsz⟩ := hrel
    have HO := Lib.hid hown
    by_cases hlt : k < n
    · have hkl : k < l.length := by rw [← HN.out]; exact hlt
      obtain ⟨u, hu⟩ : ∃ u, u = l.getD k tok0 := ⟨_, rfl⟩
      have hcs := HC.out k hkl
      rw [← hu] at hcs
      obtain ⟨g0, g1, g2⟩ := hcs
      have c0 := (HB.out.cell (p := ⟨b, _, none⟩) hb).trans g0
      have c1 := (HB.out.cell (p := ⟨b, _, none⟩) hb).trans g1
      have c2 := (HB.out.cell (p := ⟨b, _, none⟩) hb).trans g2
      have hbw : b < wr.heap.size := Nat.lt_of_lt_of_le hb hsz
      have hsn : toksCells (l.take (k + 1)) = toksCells (l.take k) ++ tokCells u := by
        rw [List.take_succ_eq_append_getElem hkl, toksCells_snoc, hu]
        simp [List.getD_eq_getElem?_getD, hkl]
      have hob : ∀ x, u3.ownBlock = some x → w.heap.size ≤ x := fun x hx => (hown.lt x hx).1
      have ak : u3.ownBlock ≠ some b := fun h => by have := hob b h; omega
      have h0 : (0 : Int) ≤ (k : Int) := Int.natCast_nonneg _
      have h1 : (k : Int) < (n : Int) := by omega
      have HSN := Lib.hid hsn
      have HU := Lib.hid hu
      have HOB := Lib.hid hob
      obtain ⟨X, hX⟩ : ∃ X, X = toksCells (l.take k) := ⟨_, rfl⟩
      rw [← hX] at hown HSN
      clear g0 g1 g2 hu hsn hob hX
      go_wp2
      go_region_held3 (fun w' => w'.cell? ⟨b, off + k * 3, none⟩ = some (.int .i64 u.kind) ∧ w'.cell? ⟨b, off + k * 3 + 1, none⟩ = some (.string u.text) ∧ w'.cell? ⟨b, off + k * 3 + 2, none⟩ = some (.int .i64 u.pos))
        (first
          | go_keep
          | (go_split_ands
             refine ⟨?_, ?_, ?_⟩
             · (rw [hgrow.cell_far _ (by simp; omega) (Ne.symm ak)]; assumption)
             · (rw [hgrow.cell_far _ (by simp; omega) (Ne.symm ak)]; assumption)
             · (rw [hgrow.cell_far _ (by simp; omega) (Ne.symm ak)]; assumption)))
        ((refine step_append_lies _ (by rfl) _ _ _ (by rfl) w.heap.size 44 i0 _ 3 32 Try.underlying28 hi hz0 hz1 hz2 rfl (by omega) u3 k X (by rfl) ((hown.alloc _).drew)
            ⟨wr.heap.size, 0, none⟩ 1 1 (tokCells u) (by rfl) (by rfl) (World.news_of_block (cs := #[.int .i64 u.kind, .string u.text, .int .i64 u.pos]) (t := 44) (fr := (0, 0)) (heap_alloc_new wr _)) (by simp [Value.oneCell', tokCells])
            (by omega) (by unfold maxLen; omega) (by omega) (by simp; omega) (wr.heap.size + 1) (by simp) ?_; intro gg cap' w1 hown1 hgrow hat hlt'))
      go_wp2
      have hB3 := ((HB.out.alloc hsz _).drew).grown hgrow (by simp; omega) HOB.out
      have hs3 : w.heap.size ≤ w1.heap.size := hB3.size
      rw [← HSN.out] at hown1
      exact ⟨⟨k + 1, by omega, by go_num, hown1, Lib.hid hB3, hs3⟩, by simp [intOf]; omega⟩
    · have hkn : k = n := by omega
      have hT : wr.ownsRow w.heap.size 44 3 u3 l.length (toksCells l) := by
        have h1 := HO.out
        rw [List.take_of_length_le (by rw [← HN.out]; omega), hkn, HN.out] at h1
        exact h1
      have HT := Lib.hid hT
      clear hkn hT hown
      go_wp2
      go_ret
      refine ⟨⟨_, rfl, ?_⟩, HB.out⟩
      rw [HN.out]
      exact HT.out

set_option maxRecDepth 100000 in
set_option maxHeartbeats 1000000 in
theorem to_none (a : Option Addr) (c : Nat) (w : World) :
    Calls Try.prog 13 #[.slice a 0 c] w fun e w' => e = .returned (.slice none 0 0) ∧ w = w' := by
  go_enter Try.func13, Try.ntmps13
  go_wp2
  refine wp_loop_rounds 1 ?_
  rw [rounds_succ]
  go_wp2
  go_ret
  exact ⟨rfl, rfl⟩

/-- the copy, as the call's own -/
theorem to_own (v : Value) (l : List Tok) (hm : l.length ≤ 100000) (w : World) (h : Toks w v l) :
    Calls Try.prog 13 #[v] w fun e w' => (∃ v', e = .returned v' ∧ w'.ownsRow w.heap.size 44 3 v' l.length (toksCells l) ∧ (l = [] → v' = .slice none 0 0)) ∧ Below w.heap.size w w' := by
  rcases h with ⟨rfl, a, c, rfl⟩ | ⟨b, off, cap, rfl, hb, _, hc⟩
  · exact (to_none a c w).mono fun e w' ⟨he, hw⟩ => ⟨⟨_, he, World.ownsRow_nil _ _ _ _, fun _ => rfl⟩, by rw [← hw]; exact Below.refl _ _⟩
  · by_cases h0 : l = []
    · subst h0
      exact (to_none _ cap w).mono fun e w' ⟨he, hw⟩ => ⟨⟨_, he, World.ownsRow_nil _ _ _ _, fun _ => rfl⟩, by rw [← hw]; exact Below.refl _ _⟩
    · exact (to_own_some b off cap l w hb hm hc).mono fun e w' ⟨⟨v', he, ho⟩, hb'⟩ => ⟨⟨v', he, ho, fun h => absurd h h0⟩, hb'⟩

theorem to_any (v : Value) (l : List Tok) (hm : l.length ≤ 100000) (w : World) (h : Toks w v l) :
    Calls Try.prog 13 #[v] w fun e w' => (∃ v', e = .returned v' ∧ Toks w' v' l) ∧ Below w.heap.size w w' := by
  exact (to_own v l hm w h).mono fun e w' ⟨⟨v', he, ho, _⟩, hb'⟩ => ⟨⟨v', he, Toks.of_own ho (by unfold maxLen; omega)⟩, hb'⟩

/-- two lists of tokens are the same, but for where they stand if that does not count -/
def Alike (pl : Bool) (l m : List Tok) : Prop := l.length = m.length ∧ ∀ j, j < l.length → (l.getD j tok0).kind = (m.getD j tok0).kind ∧ (l.getD j tok0).text = (m.getD j tok0).text ∧ (pl = true → (l.getD j tok0).pos = (m.getD j tok0).pos)
theorem Alike.refl (pl : Bool) (l : List Tok) : Alike pl l l := ⟨rfl, fun _ _ => ⟨rfl, rfl, fun _ => rfl⟩⟩

set_option maxRecDepth 100000 in
set_option maxHeartbeats 4000000 in
theorem same_some (b off cap b' off' cap' n : Nat) (pl : Bool) (l m : List Tok) (w : World) (hm : n ≤ 100000) (hn : n = l.length) (ha : Alike pl l m)
    (hc : ∀ j, j < l.length → w.cell? ⟨b, off + j * 3, none⟩ = some (.int .i64 (l.getD j tok0).kind) ∧ w.cell? ⟨b, off + j * 3 + 1, none⟩ = some (.string (l.getD j tok0).text) ∧ w.cell? ⟨b, off + j * 3 + 2, none⟩ = some (.int .i64 (l.getD j tok0).pos))
    (hc' : ∀ j, j < m.length → w.cell? ⟨b', off' + j * 3, none⟩ = some (.int .i64 (m.getD j tok0).kind) ∧ w.cell? ⟨b', off' + j * 3 + 1, none⟩ = some (.string (m.getD j tok0).text) ∧ w.cell? ⟨b', off' + j * 3 + 2, none⟩ = some (.int .i64 (m.getD j tok0).pos)) :
    Calls Try.prog 14 #[.slice (some ⟨b, off, none⟩) n cap, .slice (some ⟨b', off', none⟩) n cap', .bool pl] w fun e w' => e = .returned (.bool true) ∧ ∃ d, w' = w.drewN d := by
  have HC := Lib.hid hc
  have HC' := Lib.hid hc'
  have HA := Lib.hid ha
  have HN := Lib.hid hn
  clear hc hc' ha hn
  cases pl
  all_goals
    go_enter Try.func14, Try.ntmps14
    go_wp2
    go_loopw [7] (fun i wr => ∃ k : Nat, k ≤ n ∧ i = .int .i64 k ∧ ∃ d, wr = w.drewN d) (fun i _ => n - (intOf i).toNat)
    case atStart => exact ⟨0, Nat.zero_le _, rfl, 0, rfl⟩
    case round =>
      obtain ⟨k, hk, rfl, d, rfl⟩ := hrel
      by_cases hlt : k < n
      · have hkl : k < l.length := by rw [← HN.out]; exact hlt
        obtain ⟨c0, c1, c2⟩ := HC.out k hkl
        obtain ⟨d0, d1, d2⟩ := HC'.out k (by rw [← HA.out.1]; exact hkl)
        obtain ⟨a0, a1, a2⟩ := HA.out.2 k hkl
        rw [← a0] at d0
        rw [← a1] at d1
        try rw [← a2 rfl] at d2
        obtain ⟨u, hu⟩ : ∃ u, u = l.getD k tok0 := ⟨_, rfl⟩
        rw [← hu] at c0 c1 c2 d0 d1
        try rw [← hu] at d2
        obtain ⟨z, hz⟩ : ∃ z, z = (m.getD k tok0).pos := ⟨_, rfl⟩
        try rw [← hz] at d2
        clear a0 a1 a2 hu hz
        have h0 : (0 : Int) ≤ k := by omega
        have h1 : (k : Int) < n := by omega
        go_wp2
        go_quiet (fail)
        go_wp2
        go_roundw
        case rel => exact ⟨k + 1, by omega, by go_num, _, rfl⟩
        case measure => simp [intOf]; omega
      · go_wp2
        go_ret
        exact ⟨rfl, _, rfl⟩
end Go.Proofs.Ytdpimcjdigdggaa
