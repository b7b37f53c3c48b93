/-
  The second statement of layer 1 over package fault: called with any code, any list of places and any further place, the law answers true and leaves its arguments as they were. The one listed variable of the library holds what its initialiser lays, which the card ties to the program's text; of the library's table of powers nothing is asked but that it holds twenty numbers of its type.
-/
import Derived.Test.YtkcffgkdejjjjaaDoorV
import Derived.Test.YtkcffgkdejjjjaaDoorR
namespace Go.Proofs.YtkcffgkdejjjjaaDoor.In
open Go.ChangeShapes Go.WideShapes Go.ChangeAt Go.RowKit
open Go.ChangeMaps (open_string shut_string)

theorem zero101 : ((begin Tryd.prog (fun _ _ => 0) default).world.heap[1]?).bind Obj.row? = some (Array.replicate 20 (.int .u64 0), 101) := by kernel_rfl
theorem types101 : Tryd.prog.cellTypes Tryd.prog.depth 101 = some (List.replicate 20 94) := by kernel_rfl
theorem build101 : Tryd.prog.buildable 101 = true := by kernel_rfl
theorem globals : Tryd.prog.globals.size = 4 := by kernel_rfl

/-- the number that a cell holds -/
def numAt : Option Value → Int
  | some (.int _ n) => n
  | _ => 0

set_option maxRecDepth 100000 in
theorem tab_of_shape {W : World} (h : W.ShapedOpen Tryd.prog) : ∃ tab, TabW W tab := by
  obtain ⟨cs, hh, hs, hr⟩ := h.1 1 _ _ (by rw [globals]; omega) zero101
  rw [Array.size_replicate] at hs
  obtain ⟨ts, hts, _, hall⟩ := hr build101
  obtain rfl := Option.some.inj (types101.symm.trans hts)
  refine ⟨fun i => numAt cs[i]?, (Array.getElem?_eq_some_iff.1 hh).1, fun i hi => ?_⟩
  have hc : cs[i]? = some (cs[i]'(by omega)) := by simp [show i < cs.size by omega]
  obtain ⟨u, hu, hk⟩ := hall i _ hc
  rw [List.length_replicate, Nat.mod_eq_of_lt hi] at hu
  rw [List.getElem?_replicate, if_pos hi] at hu
  obtain rfl := Option.some.inj hu
  generalize cs[i]'(by omega) = v at hc hk
  have hcell : W.cell? ⟨1, i, none⟩ = some v := by simp [World.cell?, hh, hc]
  cases v with
  | int k n =>
    simp only [Cell.ok, Tryd.underlying94] at hk
    obtain ⟨rfl, _⟩ := hk
    rw [hcell]
    show _ = some (Value.int IntKind.u64 (numAt cs[i]?))
    rw [hc]; rfl
  | _ => simp [Cell.ok, Tryd.underlying94] at hk

theorem law_any (code : Int) (wh : ByteArray) (a : Option Addr) (len cap : Nat) (path : List ByteArray) (w : World) (h0 : -9223372036854775808 ≤ code) (h1 : code ≤ 9223372036854775807) (hs : Strs w (.slice a len cap) path) (hnil : a = none → cap = 0)
    (hg : Et w) (ht : ∃ tab, TabW w tab) :
    Calls Tryd.prog 4 #[.int .i64 code, .slice a len cap, .string wh] w fun e w' => e = .returned (.bool true) ∧ Below w.heap.size w w' := by
  cases hl : lightB path with
  | false => exact in_dark code wh _ path w hs hl hg
  | true =>
    by_cases hwh : wh.size ≤ 300
    · by_cases hc : code = 0
      · subst hc; exact in_zero wh _ path w hs hl hwh hg
      · obtain ⟨tab, ht⟩ := ht
        obtain ⟨T, hT, hTl⟩ := says_tab tab code h0 h1 w ht
        exact in_some_walk code T wh a len cap path w hs hnil hl hwh hg (by simpa using hc) hT hTl
    · exact in_long code wh _ path w hs hl (by omega) hg

set_option maxRecDepth 100000 in
theorem contract (H : Type) (enc : TypeId × Value → H) (W : World) (base : Nat) (args : Array Value) (ds gs : List (DataW H)) (before : List MemPlace)
    (hval : ∀ (j : Nat) t v, Tryd.f4.params[j]? = some t → args[j]? = some v → Value.okWide Tryd.prog W .any base t v)
    (hW : DataW.Whole enc Tryd.prog Tryd.f4.params.toList Rows.faultInSpec.vars false W args.toList ds gs before) (hL : laidMetH Tryd.prog Rows.faultInRow.laid W) (hsh : W.ShapedOpen Tryd.prog) :
    Calls Tryd.prog 4 args W fun e W' => ∃ v, e = .returned v ∧ Rows.faultInSpec.post enc Tryd.prog Tryd.f4 false true false false W args v W' := by
  have hW' := hW
  obtain ⟨p, q, hA0, hV, rfl, hfz, hnd⟩ := hW
  have hA : DataW.TrodAll enc Tryd.prog W 0 (fun _ => true) true Tryd.f4.params.toList args.toList ds p := hA0
  rw [Tryd.params4] at hA hval
  obtain ⟨v0, vs0, d0, ds0, p0, q0, hargs, rfl, rfl, h0, r0⟩ := trodAll_cons hA
  obtain ⟨v1, vs1, d1, ds1, p1, q1, rfl, rfl, rfl, h1, r1⟩ := trodAll_cons r0
  obtain ⟨v2, vs2, d2, ds2, p2, q2, rfl, rfl, rfl, h2, r2⟩ := trodAll_cons r1
  obtain ⟨rfl, rfl, rfl⟩ := trodAll_nil r2
  obtain rfl : args = #[v0, v1, v2] := by cases args; simp_all
  obtain ⟨rfl, rfl⟩ := trodVars_none hV
  obtain ⟨code, rfl, rfl, rfl, w0⟩ := open_int Tryd.underlying22 (hval 0 22 v0 rfl rfl) h0
  obtain ⟨a1, len1, cap1, rfl⟩ := okWide_slice Tryd.underlying23 (hval 1 23 v1 rfl rfl)
  obtain ⟨wh, rfl, rfl, rfl, ws⟩ := open_string Tryd.underlying9 (hval 2 9 v2 rfl rfl) h2
  have k1 := h1
  have lt1 : ∀ x ∈ p1, x.block < W.heap.size := by obtain ⟨m, hm⟩ := k1; exact DataW.trod_lt m _ _ _ hm
  obtain ⟨path, hs, hnil⟩ : ∃ path, Strs W (.slice a1 len1 cap1) path ∧ (a1 = none → cap1 = 0) := by
    obtain ⟨fuel, hf⟩ := h1
    rcases open_strings Tryd.underlying23 Tryd.underlying9 Tells.cells9 hf with ⟨hcs, _⟩ | ⟨x, l, c, ss, hcs, _, hl, hm, hz, _, hcell, _⟩
    · simp [Value.cells] at hcs
      obtain ⟨rfl, rfl, rfl⟩ := hcs
      exact ⟨[], .inl ⟨rfl, _, _, rfl⟩, fun _ => rfl⟩
    · simp [Value.cells] at hcs
      obtain ⟨rfl, rfl, rfl⟩ := hcs
      exact ⟨_, Tells.strs_of_open hl hm (by simpa using hz) hcell, fun h => by cases h⟩
  clear hA0
  simp only [List.append_nil] at hW'
  have hEt : Et W := by
    have h' : laidMet Tryd.prog [] W ∧ handlesMet Tryd.prog [("errors.errorType", Rows.laid_errors_errorType)] W := hL
    exact Tells.et_of h'.2 (by simp)
  have hbd := bounds_i64 w0
  refine (law_any code wh a1 len1 cap1 path W hbd.1 hbd.2 hs hnil hEt (tab_of_shape hsh)).mono fun e W' ⟨he, bel⟩ => ?_
  subst he
  exact ⟨_, rfl, _, _, _, [], _, [], hW', trodAll_mk1 (shut_bool Tryd.underlying4 _), (trodAll_cons_mk (shut_int Tryd.underlying22 w0) (trodAll_cons_mk (Below.trod Tells.laidOut (by kernel_rfl) (of_decide_eq_true (by kernel_rfl)) k1 bel lt1) (trodAll_cons_mk (shut_string Tryd.underlying9 ws) trodAll_mk0))), rfl, bel.frame _, fun h => by cases h⟩

theorem laid_met (os : Os) : laidMetH Tryd.prog Rows.faultInRow.laid ((Tells.laidWorld os).forCall (fun _ _ => 0) ⟨#[], #[.int .i64 0, .slice none 0 0, .string ByteArray.empty], []⟩).memory :=
  laidMetH_of_parts (laidMet_nil _ _) (by kernel_rfl)
theorem reads (os : Os) {H : Type} (enc : TypeId × Value → H) : ∃ places, DataW.whole enc Tryd.prog ((Tells.laidWorld os).forCall (fun _ _ => 0) ⟨#[], #[.int .i64 0, .slice none 0 0, .string ByteArray.empty], []⟩).memory Tryd.f4.params.toList Rows.faultInSpec.vars false #[Value.int .i64 0, .slice none 0 0, .string ByteArray.empty].toList 8 = some ([.lit (.int .i64 0), .nil, .lit (.string [])], [], places) :=
  ⟨[], by kernel_rfl⟩

set_option maxRecDepth 100000 in
theorem lifted (os : Os) (started : os.Started) (H : Type) (enc : TypeId × Value → H) (F : Stop.Interp) :
    ReturnsInHanded {} Tryd.checked os 4 .any ((OpenSpec.ofChange Rows.faultInSpec).preRow enc Tryd.prog Tryd.f4 Rows.faultInRow.domain false Rows.faultInRow.laid) (((OpenSpec.ofChange Rows.faultInSpec).at F).post enc Tryd.prog Tryd.f4 false true false false) := by
  obtain ⟨places, hx⟩ := reads os enc
  refine returnsInHanded_of_row (C := Tryd.checked) (s := OpenSpec.ofChange Rows.faultInSpec) Tells.own started (by kernel_rfl) Tryd.func4
    (witness_row_atRef (enc := enc) (C := Tryd.checked) false (Tells.laidWorld os) #[.int .i64 0, .slice none 0 0, .string ByteArray.empty] rfl (by kernel_rfl) (by kernel_rfl) (by kernel_rfl)
      (OpenSpec.preRow_of_cond 8 hx (by kernel_rfl) (fun k hk => by cases hk) (by kernel_rfl) (laid_met os))) ?_
  intro W base args ds gs before hval hW _ _ _ hL hsh _
  exact contract H enc W base args ds gs before hval hW hL hsh

theorem said : Rows.FaultInSaid :=
  OpenClaim.holds_of_cond 4 Tryd.f4 rfl rfl rfl rfl rfl rfl rfl ⟨rfl, rfl, rfl, rfl, rfl⟩ rfl rfl rfl rfl rfl (by kernel_rfl) Tryd.func4 (by kernel_rfl)
    (of_decide_eq_true (by kernel_rfl)) (by unfold Func.isWrapper; rw [if_neg (of_decide_eq_false (by kernel_rfl))]; exact ⟨rfl, rfl⟩)
    (fun os started H enc _ F => by rw [OpenClaim.pre_eq_preRow]; exact lifted os started H enc F)

theorem plain (f : FuncId) (fn : Func) (hf : Tryd.pinned.checked.prog.funcNamed "bezel/bezellaw01.FaultIn" = some f) (hfn : Tryd.pinned.checked.prog.funcs[f]? = some fn) :
    true = Tryd.pinned.checked.prog.looks [] ∧ ∀ (j : Nat) t, fn.params[j]? = some t → Tryd.pinned.checked.prog.wantsStandIn t = false := by
  obtain rfl : f = 4 := Option.some.inj ((show Tryd.prog.funcNamed "bezel/bezellaw01.FaultIn" = some 4 by kernel_rfl).symm.trans hf) |>.symm
  obtain rfl : fn = Tryd.f4 := (Option.some.inj (Tryd.func4.symm.trans hfn)).symm
  refine ⟨by kernel_rfl, fun j t ht => ?_⟩
  rw [Tryd.params4] at ht
  have hm : t ∈ #[22, 23, 9] := Array.mem_of_getElem? ht
  have h2 : t = 22 ∨ t = 23 ∨ t = 9 := by simpa using hm
  rcases h2 with rfl | rfl | rfl
  · exact (show Tryd.prog.wantsStandIn 22 = false by kernel_rfl)
  · exact (show Tryd.prog.wantsStandIn 23 = false by kernel_rfl)
  · exact (show Tryd.prog.wantsStandIn 9 = false by kernel_rfl)

/-- the card: the statement -/
theorem card : Rows.FaultInCardSaid :=
  Claim7.holds_tied_plain_at .later [] _ _ _ _ said (fun _ h => by cases h) (by kernel_rfl) (fun _ h => by cases h) faultIn_row_tie rfl ⟨rfl, rfl⟩ (by kernel_rfl) rfl plain (by kernel_rfl)
end Go.Proofs.YtkcffgkdejjjjaaDoor.In
