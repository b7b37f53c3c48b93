import Derived.Test.YtkcffgkdejjjjaaDoorC
import Derived.Deep.LoopGhost
import Derived.Maps.AppendAt
import Derived.Stop.Asserts
namespace Go.Proofs.YtkcffgkdejjjjaaDoor
open Go.RowKit

/-- an error as it lies in memory: its places, the outermost first, and the code at the end; all blocks below B -/
def Chain (w : World) (B : Nat) (code : Int) : List ByteArray → Value → Prop
  | [], e => e = .iface 22 (.int .i64 code)
  | s :: r, e => ∃ a inner, e = .iface 54 (.pointer (some ⟨a, 0, none⟩)) ∧ a < B ∧ w.cell? ⟨a, 0, none⟩ = some (.string s) ∧ w.cell? ⟨a, 1, none⟩ = some inner ∧ Chain w B code r inner

theorem Chain.below {w w' : World} {B C : Nat} {code : Int} (hb : Below C w w') (hBC : B ≤ C) : ∀ {l e}, Chain w B code l e → Chain w' B code l e
  | [], _, h => h
  | s :: r, e, h => by
    obtain ⟨a, inner, rfl, ha, h0, h1, h2⟩ := h
    exact ⟨a, inner, rfl, ha, (hb.cell (p := ⟨a, 0, none⟩) (by simp; omega)).trans h0, (hb.cell (p := ⟨a, 1, none⟩) (by simp; omega)).trans h1, h2.below hb hBC⟩
theorem Chain.up {w : World} {B C : Nat} {code : Int} (hBC : B ≤ C) : ∀ {l e}, Chain w B code l e → Chain w C code l e
  | [], _, h => h
  | s :: r, e, h => by
    obtain ⟨a, inner, rfl, ha, h0, h1, h2⟩ := h
    exact ⟨a, inner, rfl, by omega, h0, h1, h2.up hBC⟩

theorem Tryd.infoStr : (Tryd.prog.info? 9).map (fun i => (i.zero, i.size, i.bytes)) = some (some (.string ByteArray.empty), 1, 16) := by kernel_rfl

theorem step_below {B : Nat} {wr w1 : World} {o : Obj} {e size n : Nat} {v : Value} {xs : List Value} (hle : B ≤ wr.heap.size) (h : (wr.alloc o).ownsRow B e size v n xs) (hg : (wr.alloc o).grownBy w1 v.ownBlock) : Below B wr w1 :=
  ((Below.refl _ wr).alloc hle _).grown hg (by simp; omega) (fun k hk => (h.lt k hk).1)

/-- what slots 0, 5 and 6 of follow hold while r is still to come -/
def Ahead (w : World) (B : Nat) (code : Int) (r : List ByteArray) (e f ok : Value) : Prop :=
  Chain w B code r e ∧ (match r with
    | [] => f = .pointer none ∧ ok = .bool false
    | _ :: _ => ∃ a, e = .iface 54 (.pointer (some ⟨a, 0, none⟩)) ∧ f = .pointer (some ⟨a, 0, none⟩) ∧ ok = .bool true)

theorem Tryd.ta54_no (v : Value) (xT : TypeId) (w : World) : (Instr.typeAssert (.iface 22 v) xT 54 true).run Tryd.prog w = .ok (.tuple #[.pointer none, .bool false]) w := by kernel_rfl
theorem Tryd.ta54_yes (v : Value) (xT : TypeId) (w : World) : (Instr.typeAssert (.iface 54 v) xT 54 true).run Tryd.prog w = .ok (.tuple #[v, .bool true]) w := by kernel_rfl
theorem Tryd.ta54_nil (xT : TypeId) (w : World) : (Instr.typeAssert .nilIface xT 54 true).run Tryd.prog w = .ok (.tuple #[.pointer none, .bool false]) w := by kernel_rfl
theorem Tryd.ta22_yes (v : Value) (xT : TypeId) (w : World) : (Instr.typeAssert (.iface 22 v) xT 22 true).run Tryd.prog w = .ok (.tuple #[v, .bool true]) w := by kernel_rfl

set_option maxHeartbeats 400000 in
theorem isCode_yes (c : Int) (w : World) :
    Calls Tryd.prog 21 #[.iface 22 (.int .i64 c)] w fun e w' => e = .returned (.bool true) ∧ w = w' := by
  have h := Tryd.ta22_yes
  go_enter Tryd.func21, Tryd.ntmps21
  go_wp2
  go_ret
  exact ⟨rfl, rfl⟩

set_option maxRecDepth 100000 in
set_option maxHeartbeats 1000000 in
theorem follow_nil (w : World) :
    Calls Tryd.prog 16 #[.nilIface] w fun en w' => en = .returned (.tuple #[.slice none 0 0, .nilIface]) ∧ w = w' := by
  have t1 := Tryd.ta54_nil
  go_enter Tryd.func16, Tryd.ntmps16
  go_wp2
  refine wp_loop_rounds 1 ?_
  rw [rounds_succ]
  go_wp2
  go_ret2
  exact ⟨rfl, rfl⟩

set_option maxRecDepth 100000 in
set_option maxHeartbeats 1000000 in
theorem follow_any (code : Int) (path : List ByteArray) (e : Value) (w : World) (hlen : path.length ≤ 1000) (he : Chain w w.heap.size code path e) :
    Calls Tryd.prog 16 #[e] w fun en w' => ∃ v, en = .returned (.tuple #[v, .iface 22 (.int .i64 code)]) ∧ w'.ownsRow w.heap.size 9 1 v path.length (path.map Value.string) ∧ Below w.heap.size w w' := by
  obtain ⟨i0, hi, hz0, hz1, hz2⟩ := info_parts Tryd.infoStr
  have t1 := Tryd.ta54_no
  have t2 := Tryd.ta54_yes
  have HC : Hid (Chain w w.heap.size code path e) := he
  clear he
  cases path with
  | nil =>
    obtain rfl : e = _ := HC.out
    go_enter Tryd.func16, Tryd.ntmps16
    go_wp2
    refine wp_loop_rounds 1 ?_
    rw [rounds_succ]
    go_wp2
    go_ret2
    exact ⟨_, rfl, World.ownsRow_nil _ _ _ _, Below.refl _ _⟩
  | cons s r =>
    obtain ⟨ps, hps⟩ : ∃ ps, ps = s :: r := ⟨_, rfl⟩
    have HA : Hid (∃ a, e = .iface 54 (.pointer (some ⟨a, 0, none⟩)) ∧ Ahead w w.heap.size code ps e (.pointer (some ⟨a, 0, none⟩)) (.bool true)) := by
      obtain ⟨a, inner, rfl, h⟩ := HC.out
      exact ⟨a, rfl, by rw [hps]; exact ⟨⟨a, inner, rfl, h⟩, a, rfl, rfl, rfl⟩⟩
    rw [← hps] at hlen ⊢
    clear HC hps
    obtain ⟨a, rfl, HA⟩ := HA.out
    go_enter Tryd.func16, Tryd.ntmps16
    go_wp2
    go_loopg [0, 4, 5, 6] ps.length (fun k e v f ok wr => ∃ d q, Aside (ps = d ++ q) ∧ k = q.length ∧ Ahead wr w.heap.size code q e f ok ∧ wr.ownsRow w.heap.size 9 1 v d.length (d.map Value.string) ∧ Below w.heap.size w wr)
    case atStart => exact ⟨[], ps, rfl, rfl, HA, World.ownsRow_nil _ _ _ _, Below.refl _ _⟩
    case round =>
      obtain ⟨d, q, A, rfl, hA, hown, hB⟩ := hrel
      clear HA
      cases q with
      | nil =>
        obtain ⟨rfl, rfl, rfl⟩ := hA
        have A' : Aside (ps = d) := by
          show ps = d
          have := A.out; simpa using this
        clear A
        go_wp2
        go_ret2
        refine ⟨_, rfl, ?_, hB⟩
        have := A'.out; subst this; exact hown
      | cons s q =>
        obtain ⟨⟨a1, inner, rfl, ha1, h0, h1, h2⟩, a2, he2, rfl, rfl⟩ := hA
        obtain rfl : a1 = a2 := by simpa using he2
        clear he2
        have hd : d.length + 1 ≤ 1000 := by have := A.out; rw [this] at hlen; simp at hlen; omega
        obtain ⟨inner', f', ok', hin, hnext⟩ : ∃ inner' f' ok', inner = inner' ∧ Ahead wr w.heap.size code q inner' f' ok' := by
          cases q with
          | nil => exact ⟨_, _, _, rfl, h2, rfl, rfl⟩
          | cons s2 q2 =>
            obtain ⟨a2, inner2, rfl, r2⟩ := h2
            exact ⟨_, _, _, rfl, ⟨a2, inner2, rfl, r2⟩, a2, rfl, rfl, rfl⟩
        subst hin
        clear h2
        have hle : w.heap.size ≤ wr.heap.size := hB.size
        have hown2 := hown.alloc (.cells #[.string s] 9)
        cases q with
        | nil =>
          obtain ⟨hc, rfl, rfl⟩ := hnext
          obtain rfl : inner = _ := hc
          go_wp2_with (at_builtin; refine wpList_append_own _ rfl _ _ 23 rfl w.heap.size 9 i0 (.string ByteArray.empty) 1 16 Tryd.underlying23 hi hz0 hz1 hz2 rfl (by decide) _ _ _ rfl hown2 ⟨wr.heap.size, 0, none⟩ 1 1 [.string s] rfl rfl (cell_one_new _ _ _) (by simp [Value.oneCell']) (by unfold maxLen; omega) (by omega) (by simp; omega) ?_)
          intro v' w1 hown' hgrow _
          have hb2 := step_below hle hown2 hgrow
          have c1 := (hb2.cell (p := ⟨a1, 1, none⟩) (by simp; omega)).trans h1
          clear h0 h1 hown2 hgrow hown
          go_wp2
          go_roundg 0
          case measure => simp
          case rel => exact ⟨d ++ [s], [], by show ps = _; have := A.out; simpa using this, rfl, ⟨rfl, rfl, rfl⟩, by simpa using hown', hB.trans hb2⟩
        | cons s2 q2 =>
          obtain ⟨hc, a3, rfl, rfl, rfl⟩ := hnext
          have HC : Hid (Chain wr w.heap.size code (s2 :: q2) (.iface 54 (.pointer (some ⟨a3, 0, none⟩)))) := hc
          clear hc
          go_wp2_with (at_builtin; refine wpList_append_own _ rfl _ _ 23 rfl w.heap.size 9 i0 (.string ByteArray.empty) 1 16 Tryd.underlying23 hi hz0 hz1 hz2 rfl (by decide) _ _ _ rfl hown2 ⟨wr.heap.size, 0, none⟩ 1 1 [.string s] rfl rfl (cell_one_new _ _ _) (by simp [Value.oneCell']) (by unfold maxLen; omega) (by omega) (by simp; omega) ?_)
          intro v' w1 hown' hgrow _
          have hb2 := step_below hle hown2 hgrow
          have c1 := (hb2.cell (p := ⟨a1, 1, none⟩) (by simp; omega)).trans h1
          clear h0 h1 hown2 hgrow hown
          go_wp2
          go_roundg (q2.length + 1)
          case measure => simp
          case rel => exact ⟨d ++ [s], s2 :: q2, by show ps = _; have := A.out; simpa using this, rfl, ⟨HC.out.below hb2 (Nat.le_refl _), a3, rfl, rfl, rfl⟩, by simpa using hown', hB.trans hb2⟩
end Go.Proofs.YtkcffgkdejjjjaaDoor
