import Derived.Test.YtkcffgkdejjjjaaDoorJ
namespace Go.Proofs.YtkcffgkdejjjjaaDoor
open Go.RowKit

theorem Strs.of_own {w : World} {B : Nat} {v : Value} {path : List ByteArray} (h : w.ownsRow B 9 1 v path.length (path.map Value.string)) (hm : path.length ≤ maxLen) : Strs w v path := by
  have hc := @World.ownsRow.cells _ _ _ _ _ _ _ h
  have hl := h.lt
  rcases h.2 with ⟨rfl, h0⟩ | ⟨g, cap, cur, rfl, hB, hg, hn, _⟩
  · exact .inl ⟨List.length_eq_zero_iff.1 h0, _, _, rfl⟩
  · refine .inr ⟨g, 0, cap, rfl, ?_, hm, ?_⟩
    · exact (hl g rfl).2
    · intro j hj
      have := hc (g := g) rfl j (.string (path.getD j ByteArray.empty)) (by simp [List.getD_eq_getElem?_getD, hj])
      have e : (⟨g, 0, none⟩ : Addr).add j = ⟨g, 0 + j, none⟩ := by
        unfold Addr.add; split <;> simp_all
      rw [e] at this; exact this
theorem Strs.below {w w' : World} {v : Value} {path : List ByteArray} (h : Strs w v path) (hb : Below w.heap.size w w') : Strs w' v path := by
  rcases h with h | ⟨b, off, cap, rfl, h1, h2, h3⟩
  · exact .inl h
  · exact .inr ⟨b, off, cap, rfl, Nat.lt_of_lt_of_le h1 hb.size, h2, fun j hj => (hb.cell (p := ⟨b, off + j, none⟩) h1).trans (h3 j hj)⟩

/-- the places, each behind it a colon and a blank -/
def places (path : List ByteArray) : List UInt8 := path.flatMap fun s => s.data.toList ++ [58, 32]
theorem places_succ (path : List ByteArray) (k : Nat) (h : k < path.length) : places (path.take (k + 1)) = places (path.take k) ++ (path.getD k ByteArray.empty).data.toList ++ [58, 32] := by
  unfold places
  rw [List.take_succ_eq_append_getElem h, List.flatMap_append]
  simp [List.getD_eq_getElem?_getD, h]
theorem places_le (path : List ByteArray) (k : Nat) : (places (path.take k)).length ≤ (places path).length := by
  conv => rhs; rw [← List.take_append_drop k path]
  unfold places; rw [List.flatMap_append]; simp

theorem builder_new (w : World) : Lib.IsBuilder 47 5 w.heap.size w.heap.size (Lib.byteCells []) (w.alloc (.cells #[.pointer none, .slice none 0 0] 47)) :=
  .inl ⟨Nat.le_refl _, .slice none 0 0, by show (w.heap.push _)[w.heap.size]? = _; simp, World.ownsRow_nil _ _ _ _, by simp [Value.ownBlock]⟩

theorem own_below {w w' : World} {B e size n : Nat} {v : Value} {xs : List Value} (h : w.ownsRow B e size v n xs) (hb : Below w.heap.size w w') : w'.ownsRow B e size v n xs := by
  have hl := h.lt
  refine ⟨h.1, ?_⟩
  rcases h.2 with h2 | ⟨g, cap, cur, rfl, hB, hg, r⟩
  · exact .inl h2
  · exact .inr ⟨g, cap, cur, rfl, hB, (hb.block g (hl g rfl).2).trans hg, r⟩
theorem at_below {T e B b : Nat} {p : Value} {bs : List Value} {w w' : World} (h : Lib.BuilderAt T e B b p bs w) (hb : Below w.heap.size w w') : Lib.BuilderAt T e B b p bs w' := by
  have hlt := h.lt
  obtain ⟨hB, v, hbk, hown, hne⟩ := h
  exact ⟨hB, v, (hb.block b hlt).trans hbk, own_below hown hb, hne⟩
theorem builder_below {T e : Nat} {B b : Nat} {bs : List Value} {w w' : World} (h : Lib.IsBuilder T e B b bs w) (hb : Below w.heap.size w w') : Lib.IsBuilder T e B b bs w' := by
  rcases h with h | h
  · exact .inl (at_below h hb)
  · exact .inr (at_below h hb)
set_option maxRecDepth 100000 in
set_option maxHeartbeats 1000000 in
theorem text_any (w0 : World) (code : Int) (T : List UInt8) (hT : Says w0 code T) (path : List ByteArray) (e : Value) (w : World) (hlen : path.length ≤ 1000) (hsum : (places path).length + T.length ≤ 1000000)
    (he : Chain w w.heap.size code path e) (hw : Below w0.heap.size w0 w) :
    Calls Tryd.prog 8 #[e] w fun en w' => en = .returned (.string ⟨(places path ++ T).toArray⟩) ∧ Below w.heap.size w w' := by
  have F := follow_any code path e w hlen he
  obtain ⟨t, v, rfl⟩ := he.iface
  have HW := Lib.hid hw
  have HT := Lib.hid hT
  have hle0 := hw.size
  clear he hw hT
  go_enter Tryd.func8, Tryd.ntmps8
  go_wp2_with (go_at_call 16; refine F.mono ?_)
  rintro en w1 ⟨v1, rfl, hown, hb⟩
  clear F
  have hS := Strs.of_own hown (by unfold maxLen; omega)
  clear hown
  have hI := builder_new w1
  have hI0 : w1.heap.size ≤ (w1.alloc (.cells #[.pointer none, .slice none 0 0] 47)).heap.size := by simp
  have hBB : Below w1.heap.size w1 (w1.alloc (.cells #[.pointer none, .slice none 0 0] 47)) := (Below.refl _ _).alloc (Nat.le_refl _) _
  rcases hS with ⟨rfl, az, cz, rfl⟩ | ⟨b, off, cap, rfl, hbl, hm, hc⟩
  · have hbw := hb.trans (hBB.mono hb.size)
    have C := words_any w0 code T HT.out _ (HW.out.trans (hbw.mono hle0))
    have hk2 : (Lib.byteCells (places [])).length + (⟨T.toArray⟩ : ByteArray).size ≤ 140737488355328 := by
      rw [Lib.byteCells_length]; show _ + T.toArray.size ≤ _; simp; omega
    have HK2 := Lib.hid hk2
    have HI := Lib.hid hI
    have HB := Lib.hid hBB
    have HC := Lib.hid C
    clear hk2 hI hbw hBB C
    go_wp2_with fail
    refine wp_loop_rounds 1 ?_
    rw [rounds_succ]
    go_wp2_with fail
    refine HC.out.mono ?_
    rintro e w2 ⟨rfl, hb2⟩
    have hI2 : Lib.IsBuilder 47 5 w1.heap.size w1.heap.size (Lib.byteCells (places [])) w2 := builder_below HI.out hb2
    have hs2 := hb2.size
    go_wp2_with fail
    refine (writeString w1.heap.size w1.heap.size _ ⟨T.toArray⟩ _ hI2 HK2.out (by omega)).mono ?_
    rintro e w3 ⟨rfl, hI3, hb3⟩
    have hs3 := hb3.size
    have hI4 : Lib.IsBuilder 47 5 w1.heap.size w1.heap.size (Lib.byteCells (places [] ++ T)) w3 := by
      rw [Lib.byteCells_append]; exact .inr hI3
    have S := Tryd.Builder_String_any w1.heap.size w1.heap.size (places [] ++ T) w3 hI4 (by omega)
    clear hI2 hI3 hI4
    go_wp2_with (go_at_call 19; refine S.mono ?_; rintro e w4 ⟨rfl, hb4⟩)
    go_ret
    refine ⟨rfl, ?_⟩
    have hb5 := HB.out.trans ((hb2.mono hI0).trans (hb3.trans hb4))
    exact hb.trans (hb5.mono hb.size)
  · go_wp2_with fail
    go_loopw [17] (fun i wr => ∃ k : Nat, k ≤ path.length ∧ i = .int .i64 k ∧ Lib.IsBuilder 47 5 w1.heap.size w1.heap.size (Lib.byteCells (places (path.take k))) wr ∧ Below w1.heap.size w1 wr ∧ w1.heap.size ≤ wr.heap.size) (fun i _ => path.length - (intOf i).toNat)
    case atStart => exact ⟨0, Nat.zero_le _, rfl, hI, hBB, hI0⟩
    case round =>
      obtain ⟨k, hk, rfl, hIk, hBk, hsk⟩ := hrel
      clear hI hI0 hBB
      by_cases hlt : k < path.length
      · obtain ⟨s, hs⟩ : ∃ s, s = path.getD k ByteArray.empty := ⟨_, rfl⟩
        have hcx : wr.cell? ⟨b, off + k, none⟩ = some (.string s) := by rw [hs]; exact (hBk.cell (p := ⟨b, off + k, none⟩) hbl).trans (hc k hlt)
        have hp := places_succ path k hlt
        rw [← hs] at hp
        have hpl := places_le path (k + 1)
        have hpl0 : (places (path.take k)).length + s.size + 2 ≤ 1000000 := by rw [hp] at hpl; simp at hpl; omega
        have HP := Lib.hid hp
        clear hs hp hc hpl
        go_wp2_with fail
        refine (writeString w1.heap.size w1.heap.size _ s _ hIk (by rw [Lib.byteCells_length]; omega) hsk).mono ?_
        rintro e w2 ⟨rfl, hI2, hb2⟩
        have hs2 := hb2.size
        have hl2 : (Lib.byteCells (places (path.take k)) ++ Lib.strCells s).length + (⟨#[58, 32]⟩ : ByteArray).size ≤ 140737488355328 := by
          rw [List.length_append, Lib.byteCells_length, Lib.strCells_length, show (⟨#[58, 32]⟩ : ByteArray).size = 2 from rfl]; omega
        have HL2 := Lib.hid hl2
        clear hl2
        go_wp2_with fail
        refine (writeString w1.heap.size w1.heap.size _ ⟨#[58, 32]⟩ _ (.inr hI2) HL2.out (by omega)).mono ?_
        rintro e w3 ⟨rfl, hI3, hb3⟩
        have hI4 : Lib.IsBuilder 47 5 w1.heap.size w1.heap.size (Lib.byteCells (places (path.take (k + 1)))) w3 := by
          rw [HP.out, Lib.byteCells_append, Lib.byteCells_append, ← Lib.strCells_eq]
          exact .inr hI3
        have hs3 := hb3.size
        have hb4 := hBk.trans (hb2.trans hb3)
        clear hI3 hI2 hIk hb2 hb3 hBk
        go_wp2
        go_roundw
        case rel => exact ⟨k + 1, by omega, by go_num, hI4, hb4, by omega⟩
        case measure => simp [intOf]; omega
      · have e : k = path.length := by omega
        subst e
        rw [List.take_of_length_le (Nat.le_refl _)] at hIk
        clear hc
        have hbw := hb.trans (hBk.mono hb.size)
        have C := words_any w0 code T HT.out wr (HW.out.trans (hbw.mono hle0))
        have hk2 : (Lib.byteCells (places path)).length + (⟨T.toArray⟩ : ByteArray).size ≤ 140737488355328 := by
          rw [Lib.byteCells_length]; show _ + T.toArray.size ≤ _; simp; omega
        have HK2 := Lib.hid hk2
        clear hk2
        go_wp2_with (go_at_call 18; refine C.mono ?_; rintro e w2 ⟨rfl, hb2⟩)
        have hI2 : Lib.IsBuilder 47 5 w1.heap.size w1.heap.size (Lib.byteCells (places path)) w2 := builder_below hIk hb2
        have hs2 := hb2.size
        clear C
        refine (writeString w1.heap.size w1.heap.size _ ⟨T.toArray⟩ _ hI2 HK2.out (by omega)).mono ?_
        rintro e w3 ⟨rfl, hI3, hb3⟩
        have hs3 := hb3.size
        have hI4 : Lib.IsBuilder 47 5 w1.heap.size w1.heap.size (Lib.byteCells (places path ++ T)) w3 := by
          rw [Lib.byteCells_append]; exact .inr hI3
        have S := Tryd.Builder_String_any w1.heap.size w1.heap.size (places path ++ T) w3 hI4 (by omega)
        clear hI2 hI3 hI4 hIk
        go_wp2_with (go_at_call 19; refine S.mono ?_; rintro e w4 ⟨rfl, hb4⟩)
        go_ret
        refine ⟨rfl, ?_⟩
        have hb5 := hBk.trans ((hb2.mono hsk).trans (hb3.trans hb4))
        exact hb.trans (hb5.mono hb.size)
end Go.Proofs.YtkcffgkdejjjjaaDoor
