import Derived.Test.YtkcffgkdejjjjaaDoorM
import Derived.Test.YtkcffgkdejjjjaaDoorA
namespace Go.Proofs.YtkcffgkdejjjjaaDoor
open Go.RowKit Go.Shelf

attribute [local go_sem] Oper.semAt_some

/-- as Chain, all blocks beyond lo -/
def ChainLo (w : World) (lo : Nat) (code : Int) : List ByteArray → Value → Prop
  | [], e => e = .iface 22 (.int .i64 code)
  | s :: r, e => ∃ a inner, e = .iface 54 (.pointer (some ⟨a, 0, none⟩)) ∧ lo < a ∧ w.cell? ⟨a, 0, none⟩ = some (.string s) ∧ w.cell? ⟨a, 1, none⟩ = some inner ∧ ChainLo w lo code r inner

theorem lt_of_cell {w : World} {a o : Nat} {v : Value} (h : w.cell? ⟨a, o, none⟩ = some v) : a < w.heap.size := by
  rcases Nat.lt_or_ge a w.heap.size with h' | h'
  · exact h'
  · simp [World.cell?, Array.getElem?_eq_none h'] at h
theorem ChainLo.kept {w w' : World} {lo : Nat} {code : Int} (hk : ∀ a o v, lo < a → w.cell? ⟨a, o, none⟩ = some v → w'.cell? ⟨a, o, none⟩ = some v) : ∀ {l e}, ChainLo w lo code l e → ChainLo w' lo code l e
  | [], _, h => h
  | s :: r, e, h => by
    obtain ⟨a, inner, rfl, ha, h0, h1, h2⟩ := h
    exact ⟨a, inner, rfl, ha, hk _ _ _ ha h0, hk _ _ _ ha h1, h2.kept hk⟩
theorem ChainLo.chain {w : World} {lo : Nat} {code : Int} : ∀ {l e}, ChainLo w lo code l e → Chain w w.heap.size code l e
  | [], _, h => h
  | s :: r, e, h => by
    obtain ⟨a, inner, rfl, ha, h0, h1, h2⟩ := h
    exact ⟨a, inner, rfl, lt_of_cell h0, h0, h1, h2.chain⟩
theorem ChainLo.iface {w : World} {lo : Nat} {code : Int} {l : List ByteArray} {e : Value} (h : ChainLo w lo code l e) : ∃ t v, e = .iface t v := by
  cases l with
  | nil => exact ⟨_, _, h⟩
  | cons s r => obtain ⟨a, i, rfl, _⟩ := h; exact ⟨_, _, rfl⟩

/-- Make's variable e, when pre has come -/
def MadeI (code : Int) (eb : Nat) (pre : List (Nat × ByteArray)) (W : World) : Prop := ∃ e, Boxed W eb 27 e ∧ ChainLo W eb code (pre.map Prod.snd).reverse e ∧ eb + 2 ≤ W.heap.size
theorem madeI_own (code : Int) (eb : Nat) : Own (MadeI code eb) := fun pre W W' row ⟨e, hb, hc, hz⟩ hg hr =>
  ⟨e, hb.kept hg (fun e' => by obtain ⟨o, ho, hc⟩ := hr eb e'.symm; rw [show W.heap[eb]? = _ from hb] at ho; cases ho; cases hc),
    hc.kept fun a o v _ h => cell_kept h hg hr, Nat.le_trans hz hg.size⟩

theorem back_all (ss : List ByteArray) : ((upto (back ss) ss.length).map Prod.snd).reverse = ss := by
  apply List.ext_getElem
  · simp [upto]
  · intro i h1 h2
    have : ss.length - 1 - (ss.length - 1 - i) = i := by omega
    simp [upto, back, this, h2]

theorem inW (l n : Nat) (s : ByteArray) (t : TypeId) (v : Value) (w : World) :
    CallsIn (Fence.wide.inRound l) n Tryd.prog 14 #[.string s, .iface t v] w fun e w' => e = .returned (.iface 54 (.pointer (some ⟨w.heap.size, 0, none⟩))) ∧ w' = w.alloc (.cells #[.string s, .iface t v] 56) :=
  CallsIn.inRound l (callsIn_wide.2 (in_some s t v w))

theorem made_step {code : Int} {w W : World} {pre : List (Nat × ByteArray)} {x : Nat × ByteArray} {t : TypeId} {v : Value} {B : Nat}
    (hb : Boxed W w.heap.size 27 (.iface t v)) (hc : ChainLo W w.heap.size code (pre.map Prod.snd).reverse (.iface t v)) (hz : w.heap.size + 2 ≤ W.heap.size) (hB : Below w.heap.size w W) :
    KeepsFrom B W ((W.alloc (.cells #[.string x.2, .iface t v] 56)).setCell ⟨w.heap.size, 0, none⟩ (.iface 54 (.pointer (some ⟨W.heap.size, 0, none⟩)))) ∧
    Kp w.heap.size (w.heap.size + 2) W ((W.alloc (.cells #[.string x.2, .iface t v] 56)).setCell ⟨w.heap.size, 0, none⟩ (.iface 54 (.pointer (some ⟨W.heap.size, 0, none⟩)))) ∧
    (MadeI code w.heap.size (pre ++ [x]) ((W.alloc (.cells #[.string x.2, .iface t v] 56)).setCell ⟨w.heap.size, 0, none⟩ (.iface 54 (.pointer (some ⟨W.heap.size, 0, none⟩)))) ∧
      Below w.heap.size w ((W.alloc (.cells #[.string x.2, .iface t v] 56)).setCell ⟨w.heap.size, 0, none⟩ (.iface 54 (.pointer (some ⟨W.heap.size, 0, none⟩))))) := by
  have hne : ∀ {a o : Nat}, w.heap.size < a → (⟨w.heap.size, 0, none⟩ : Addr) ≠ ⟨a, o, none⟩ := fun h e => by cases e; omega
  have hnew : ∀ o, ((W.alloc (.cells #[.string x.2, .iface t v] 56)).setCell ⟨w.heap.size, 0, none⟩ (.iface 54 (.pointer (some ⟨W.heap.size, 0, none⟩)))).cell? ⟨W.heap.size, o, none⟩ = (#[.string x.2, .iface t v] : Array Value)[o]? := fun o => by
    rw [World.cell?_setCell_other (h := hne (by omega)), World.cell?_alloc_at _ _ _ _ rfl]
  refine ⟨((KeepsOthers.alloc _ _).trans (KeepsOthers.setCell _ _ _)).from _, ?_, ⟨_, ((hb.alloc _).set _), ?_, ?_⟩, ?_⟩
  · intro k hk hke
    rw [Below.heap_setCell _ _ _ k hke]
    exact Below.heap_alloc _ _ k (by omega)
  · rw [List.map_append, List.reverse_append]
    refine ⟨W.heap.size, .iface t v, rfl, by omega, hnew 0, hnew 1, hc.kept fun a o u ha h => ?_⟩
    rw [World.cell?_setCell_other (h := hne ha), World.cell?_alloc_lt _ _ ⟨a, o, none⟩ (lt_of_cell h)]
    exact h
  · have : (W.alloc (.cells #[.string x.2, .iface t v] 56)).heap.size ≤ _ := (KeepsOthers.setCell (W.alloc (.cells #[.string x.2, .iface t v] 56)) ⟨w.heap.size, 0, none⟩ (.iface 54 (.pointer (some ⟨W.heap.size, 0, none⟩)))).size
    rw [World.size_alloc] at this
    omega
  · exact (hB.alloc (by omega) _).setCell (p := ⟨w.heap.size, 0, none⟩) (Nat.le_refl _) _

set_option maxRecDepth 100000 in
set_option maxHeartbeats 4000000 in
theorem make_any (code : Int) (a : Option Addr) (len cap : Nat) (ss : List ByteArray) (w : World) (hcode : (code == 0) = false) (hreach : ss.length ≤ 1000) (hI : Strs w (.slice a len cap) ss) :
    Calls Tryd.prog 7 #[.int .i64 code, .slice a len cap] w fun en w' => ∃ e, en = .returned e ∧ Chain w' w'.heap.size code ss e ∧ Below w.heap.size w w' := by
  refine (callsIn_wide (n := 5)).1 ?_
  have hro : Fence.wide.round = none := rfl
  refine callsIn_of_wp_marks Tryd.func7 rfl trivial ?_ hro
  simp only [Tryd.ntmps7, List.size_toArray, List.length_cons, List.length_nil, Nat.reduceAdd, Nat.reduceSub, Array.replicate_succ, Array.replicate_zero, List.push_toArray, List.append_toArray, List.nil_append, List.cons_append]
  have HI := Lib.hid hI
  clear hI
  gi_wp2_with (refine ⟨trivial, ?_⟩; gi_at_call 15; refine (backward_in Fence.wide _ trivial rfl _ _ _ _).mono ?_; rintro e w' ⟨rfl, rfl⟩)
  have bS := Boxed.new w 27 (.iface 22 (.int .i64 code))
  have bN := Boxed.new (w.alloc (.cells #[.iface 22 (.int .i64 code)] 27)) 23 (.slice a len cap)
  rw [World.size_alloc] at bN
  have hB0 : Below w.heap.size w ((w.alloc (.cells #[.iface 22 (.int .i64 code)] 27)).alloc (.cells #[.slice a len cap] 23)) := ((Below.refl _ w).alloc (Nat.le_refl _) _).alloc (by simp) _
  have hlow : ∀ p n c, Value.slice a len cap = .slice (some p) n c → n ≠ 0 → p.block < w.heap.size + 2 ∧ p.block ≠ w.heap.size := fun p n c e hn0 => by
    rcases HI.out with ⟨_, a0, c0, h⟩ | ⟨b, off, cap, h, hb, _⟩
    · rw [h] at e; cases e; exact absurd rfl hn0
    · rw [h] at e; cases e; exact ⟨by show b < _; omega, by show b ≠ _; omega⟩
  refine wpIn_rangeFunc_ownG hro (by omega) (gf := 24) (lb := #[.pointer (some ⟨w.heap.size + 1, 0, none⟩)]) rfl trivial (enters_of Tryd.func24 (by kernel_rfl) rfl)
    (back_stops Fence.wide (5 - 1) trivial hro (by omega) (w.heap.size + 1) w.heap.size (w.heap.size + 2) _ ss hreach _ (by omega) (by omega) (by simp) bN.cell (HI.out.below hB0) hlow) Kp.trans
    (fun W l o o' hl h hc hw => Kp.of_below (belowK_b (w := (w.alloc (.cells #[.iface 22 (.int .i64 code)] 27)).alloc (.cells #[.slice a len cap] 23)) (by simp) W l o o' hl h hc hw)) (Below.refl _ _) (fun _ => rfl)
    (fun pre W => MadeI code w.heap.size pre W ∧ Below w.heap.size w W)
    (fun _ _ _ => False)
    (OwnFrom.and (Own.from (madeI_own code w.heap.size) _) (ownFrom_below (Nat.le_refl _) (by simp; omega)))
    (fun _ _ _ _ _ hs _ _ => hs)
    ⟨⟨_, bS.alloc _, rfl, by simp⟩, hB0⟩
    (fun x => { tmps := #[.int .i64 code, .slice a len cap, undef, undef, .nilIface, .pointer (some ⟨w.heap.size, 0, none⟩), undef, .string x.2, .int .i64 code, .bool false, .int .i64 code, .iface 22 (.int .i64 code), .slice a len cap, .func (.func 24) #[] #[.pointer (some ⟨w.heap.size + 1, 0, none⟩)], .int .i64 (x.1 : Int), .string x.2, undef, undef, undef, undef], defers := [] }) ?assign ?body ?done ?stop
  case assign =>
    intro l x W K hK
    gi_wp2
    exact hK
  case body =>
    rintro l pre x W ⟨⟨e, hbx, hch, hz⟩, hB⟩ _
    obtain ⟨t, v, rfl⟩ := hch.iface
    have hc := hbx.cell
    have hf := hbx.frozen
    have hlt := hbx.lt
    have HC := Lib.hid hch
    have HB := Lib.hid hbx
    clear hch hbx
    gi_wp2_with (refine ⟨trivial, ?_⟩; gi_at_call 14; refine (inW l _ _ _ _ _).mono ?_; rintro e w' ⟨rfl, rfl⟩)
    rw [← World.setCell_alloc_past _ _ _ _ hlt]
    exact made_step (x := x) HB.out HC.out hz hB
  case done =>
    rintro D ys W hD rfl ⟨⟨e, hbx, hch, hz⟩, hB⟩ hK
    have hc := hbx.cell
    obtain ⟨t, v, rfl⟩ := hch.iface
    rw [back_all] at hch
    have HC := Lib.hid hch
    clear hch hbx
    gi_wp2
    refine ⟨by simp, .inl ⟨_, _, rfl, run_takeDeferred hK, ?_⟩⟩
    have hg := grownBy_putObj' W D (.deferred none)
    have hch := HC.out.kept (w' := W.putObj D (.deferred none)) (fun a o v _ h => cell_kept h hg (fun r e => by cases e; exact ⟨_, hK, rfl⟩))
    refine ⟨_, results_tmp rfl _ _ _, _, rfl, ?_,  hB.trans (belowK_b (w := w) (Nat.le_refl _) W D _ _ (by simp at hD; omega) hK rfl rfl)⟩
    have := hch.chain
    simpa using this
  case stop =>
    rintro D c pre W _ _ h _
    exact h.elim
end Go.Proofs.YtkcffgkdejjjjaaDoor
