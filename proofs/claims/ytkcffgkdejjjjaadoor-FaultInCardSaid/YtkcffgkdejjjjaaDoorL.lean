import Derived.Test.YtkcffgkdejjjjaaDoorK
namespace Go.Proofs.YtkcffgkdejjjjaaDoor
open Go.RowKit

theorem ba_append (a b : List UInt8) : (⟨a.toArray⟩ : ByteArray) ++ ⟨b.toArray⟩ = ⟨(a ++ b).toArray⟩ := by
  apply ByteArray.ext; simp [ByteArray.data_append]
theorem ba_three (a : List UInt8) (s : ByteArray) (b : List UInt8) : (⟨a.toArray⟩ : ByteArray) ++ s ++ ⟨b.toArray⟩ = ⟨(a ++ (s.data.toList ++ b)).toArray⟩ := by
  apply ByteArray.ext; simp [ByteArray.data_append]

set_option maxHeartbeats 400000 in
theorem text_nil (w : World) :
    Calls Tryd.prog 8 #[.nilIface] w fun en w' => en = .returned (.string ⟨#[]⟩) ∧ w = w' := by
  go_enter Tryd.func8, Tryd.ntmps8
  go_wp2
  go_ret
  exact ⟨rfl, rfl⟩

set_option maxHeartbeats 400000 in
theorem error_any (w0 : World) (code : Int) (T : List UInt8) (hT : Says w0 code T) (path : List ByteArray) (a : Addr) (w : World) (hlen : path.length ≤ 1000) (hsum : (places path).length + T.length ≤ 1000000)
    (he : Chain w w.heap.size code path (.iface 54 (.pointer (some a)))) (hw : Below w0.heap.size w0 w) :
    Calls Tryd.prog 68 #[.pointer (some a)] w fun en w' => en = .returned (.string ⟨(places path ++ T).toArray⟩) ∧ Below w.heap.size w w' := by
  have C := text_any w0 code T hT path _ w hlen hsum he hw
  clear he hw hT
  go_enter Tryd.func68, Tryd.ntmps68
  go_wp2_with (go_at_call 8; refine C.mono ?_; rintro e w2 ⟨rfl, hb2⟩)
  go_ret
  exact ⟨rfl, hb2⟩

set_option maxRecDepth 100000 in
set_option maxHeartbeats 1000000 in
theorem refText_some (w0 : World) (code : Int) (T : List UInt8) (hT : Says w0 code T) (path : List ByteArray) (b off cap : Nat) (w : World) (hcode : (code == 0) = false) (hlen : path.length ≤ 1000) (hsum : (places path).length + T.length ≤ 1000000)
    (hc : ∀ j, j < path.length → w.cell? ⟨b, off + j, none⟩ = some (.string (path.getD j ByteArray.empty))) (hw : Below w0.heap.size w0 w) :
    Calls Tryd.prog 13 #[.int .i64 code, .slice (some ⟨b, off, none⟩) path.length cap] w fun en w' => en = .returned (.string ⟨(places path ++ T).toArray⟩) ∧ Below w.heap.size w w' := by
  have C := hT w hw
  have HC := Lib.hid C
  clear hT hw C
  go_enter Tryd.func13, Tryd.ntmps13
  go_wp2
  go_loop [5, 6] (fun s i => ∃ k : Nat, k ≤ path.length ∧ i = .int .i64 k ∧ s = .string ⟨(places (path.take k)).toArray⟩) (fun _ i => path.length - (intOf i).toNat)
  case atStart => exact ⟨0, Nat.zero_le _, rfl, rfl⟩
  case round =>
    obtain ⟨k, hk, rfl, rfl⟩ := hrel
    by_cases hlt : k < path.length
    · obtain ⟨s, hs⟩ : ∃ s, s = path.getD k ByteArray.empty := ⟨_, rfl⟩
      have hcx : w.cell? ⟨b, off + k, none⟩ = some (.string s) := by rw [hs]; exact hc k hlt
      have hp := places_succ path k hlt
      rw [← hs] at hp
      have HP := Lib.hid hp
      have hpl := places_le path (k + 1)
      have hpl0 : (places (path.take k)).length + s.size + 2 ≤ 1000000 := by rw [hp] at hpl; simp at hpl; omega
      generalize hq : places (path.take k) = pk at *
      clear hs hp hc hpl hq
      go_wp2
      go_round
      case rel => exact ⟨k + 1, by omega, by go_num, by rw [HP.out]; simp; exact ba_three _ _ _⟩
      case measure => simp [intOf]; omega
    · have e : k = path.length := by omega
      subst e
      rw [List.take_of_length_le (Nat.le_refl _)]
      clear hc
      have hpl0 : (places path).length ≤ 1000000 := by omega
      generalize hq : places path = pk at *
      have HG := Lib.hid hq
      clear hq
      go_wp2_with (go_at_call 23; refine HC.out.mono ?_; rintro e w2 ⟨rfl, hb2⟩)
      go_ret
      refine ⟨?_, hb2⟩
      rw [HG.out, ba_append]
      rfl

set_option maxRecDepth 100000 in
set_option maxHeartbeats 1000000 in
theorem refText_nil (w0 : World) (code : Int) (T : List UInt8) (hT : Says w0 code T) (w : World) (hcode : (code == 0) = false) (hsum : T.length ≤ 1000000) (hw : Below w0.heap.size w0 w) (a : Option Addr) (c : Nat) :
    Calls Tryd.prog 13 #[.int .i64 code, .slice a 0 c] w fun en w' => en = .returned (.string ⟨(places [] ++ T).toArray⟩) ∧ Below w.heap.size w w' := by
  have C := hT w hw
  have HC := Lib.hid C
  clear hT hw C
  go_enter Tryd.func13, Tryd.ntmps13
  go_wp2
  refine wp_loop_rounds 1 ?_
  rw [rounds_succ]
  go_wp2_with (go_at_call 23; refine HC.out.mono ?_; rintro e w2 ⟨rfl, hb2⟩)
  go_ret
  exact ⟨by simp [places]; exact ba_append [] T, hb2⟩

theorem refText_calls (w0 : World) (code : Int) (T : List UInt8) (hT : Says w0 code T) (path : List ByteArray) (v : Value) (w : World) (hcode : (code == 0) = false) (hlen : path.length ≤ 1000) (hsum : (places path).length + T.length ≤ 1000000)
    (hs : Strs w v path) (hw : Below w0.heap.size w0 w) :
    Calls Tryd.prog 13 #[.int .i64 code, v] w fun en w' => en = .returned (.string ⟨(places path ++ T).toArray⟩) ∧ Below w.heap.size w w' := by
  rcases hs with ⟨rfl, a, c, rfl⟩ | ⟨b, off, cap, rfl, _, _, hc⟩
  · exact refText_nil w0 code T hT w hcode (by omega) hw a c
  · exact refText_some w0 code T hT path b off cap w hcode hlen hsum hc hw
end Go.Proofs.YtkcffgkdejjjjaaDoor
