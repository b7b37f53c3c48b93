import Derived.Test.YtibhfcnjmilepaaDoorNumAU
import Derived.Deep.RegionHeld3
namespace Go.Proofs.YtibhfcnjmilepaaDoor
open Go.RowKit

theorem dec_all (n : Nat) : (decN n).all isD = true := by
  rw [List.all_eq_true]; exact dec_allD n
theorem body_dec0 (m : Bool) (n : Nat) : bodyZ m (decN n) = some (sg m n) := by
  unfold bodyZ
  rw [if_pos ⟨dec_ne n, dec_all n⟩, val_dec]
/-- a number is read of its text -/
theorem read_text (x : Int) : readZ (textZ x) = some x := by
  unfold textZ
  by_cases h : x < 0
  · rw [if_pos h]
    unfold readZ
    rw [if_pos (by rfl)]
    show bodyZ true (decN x.natAbs) = _
    rw [body_dec0]
    have := sg_int x
    rw [decide_eq_true h] at this
    rw [this]
  · rw [if_neg h]
    unfold readZ
    have h0 : (decN x.natAbs).head? ≠ some 45 := by
      intro h1
      have h2 : (45 : UInt8) ∈ decN x.natAbs := List.mem_of_head? h1
      have h3 := dec_allD _ _ h2
      exact absurd h3 (by decide)
    rw [if_neg h0, body_dec0]
    have := sg_int x
    rw [decide_eq_false h] at this
    rw [this]
theorem text_inj {x y : Int} (h : textZ x = textZ y) : x = y := by
  have h1 := read_text x
  rw [h, read_text y] at h1
  exact (Option.some.inj h1).symm
theorem text_len {K : Nat} (x : Int) (h : (digB x.natAbs).length ≤ K) : (textZ x).length ≤ 9 * K + 1 := by
  have h1 := digB_len.1 h
  unfold textZ
  rcases Nat.eq_zero_or_pos K with rfl | hK
  · have h2 : x = 0 := by
      rw [Nat.pow_zero] at h1; omega
    subst h2
    rw [if_neg (by omega)]
    show (decN 0).length ≤ _
    rw [decN_small (by omega)]; simp
  · have h2 : (decN x.natAbs).length ≤ 9 * K := (dec_len (by omega)).2 (by rw [pow_nine]; exact h1)
    split
    · rw [List.length_cons]; omega
    · omega
/-- and put together of its digits -/
theorem join_parts (x : Int) : joinZ (decide (x < 0)) (digB x.natAbs) = some x := by
  unfold joinZ
  rw [valB_digB, sg_int, if_pos]
  refine ⟨?_, rfl, rfl⟩
  rw [List.all_eq_true]
  exact fun d hd => decide_eq_true (digB_ok _ d hd)
theorem cmp_anti (x y : Int) : cmpZ x y = -cmpZ y x := by
  unfold cmpZ
  rcases Int.lt_trichotomy x y with h | h | h
  · rw [if_pos h, if_neg (by omega), if_neg (by omega)]
  · rw [if_neg (by omega), if_pos h, if_neg (by omega), if_pos h.symm]; rfl
  · rw [if_neg (by omega), if_neg (by omega), if_pos h]; rfl
theorem dig_lt32 (n j : Nat) : (digB n).getD j 0 < 4294967296 := by
  rw [List.getD_eq_getElem?_getD]
  by_cases h : j < (digB n).length
  · rw [List.getElem?_eq_getElem h, Option.getD_some]
    have := digB_ok n _ (List.getElem_mem h)
    rw [bigB_eq] at this; omega
  · rw [List.getElem?_eq_none (by omega)]; exact (by omega : (0 : Nat) < 4294967296)
/-- a number, and an error's number, handed back -/
def OkPost (K : Nat) (k z : Int) (w : World) (e : Ending) (w' : World) : Prop := (∃ b s l c, e = .returned (.tuple #[.agg #[.bool b, .slice s l c], .int .i64 k]) ∧ NumIs K w' (.agg #[.bool b, .slice s l c]) z) ∧ Below w.heap.size w w'
theorem ok_post {K : Nat} {k z : Int} {w w' : World} {e : Ending} (h : ErrPost K (some z) k w e w') : OkPost K 0 z w e w' := h
theorem no_post {K : Nat} {k : Int} {w w' : World} {e : Ending} (h : ErrPost K none k w e w') : OkPost K k 0 w e w' := h
theorem nquo0 {K L : Nat} {w : World} {a b : Value} {x : Int} (ha : NumIs K w a x) (hb : NumIs L w b 0) (hK : K ≤ 10000) (hL : L ≤ 10000) : Calls Tryd.prog 21 #[a, b] w (OkPost K 8 0 w) := by
  have := nquo ha hb hK hL
  rw [show quoZ x 0 = none from rfl] at this
  exact this.mono fun _ _ h => no_post h
theorem nrem0 {K L : Nat} {w : World} {a b : Value} {x : Int} (ha : NumIs K w a x) (hb : NumIs L w b 0) (hK : K ≤ 10000) (hL : L ≤ 10000) : Calls Tryd.prog 22 #[a, b] w (OkPost K 8 0 w) := by
  have := nrem ha hb hK hL
  rw [show remZ x 0 = none from rfl] at this
  exact this.mono fun _ _ h => no_post h
theorem nquo1 {K L : Nat} {w : World} {a b : Value} {x y q : Int} (ha : NumIs K w a x) (hb : NumIs L w b y) (hK : K ≤ 10000) (hL : L ≤ 10000) (h0 : y ≠ 0) (hq : x.tdiv y = q) : Calls Tryd.prog 21 #[a, b] w (OkPost K 0 q w) := by
  have := nquo ha hb hK hL
  rw [show quoZ x y = some q by unfold quoZ; rw [if_neg h0, hq]] at this
  exact this.mono fun _ _ h => ok_post h
theorem nrem1 {K L : Nat} {w : World} {a b : Value} {x y r : Int} (ha : NumIs K w a x) (hb : NumIs L w b y) (hK : K ≤ 10000) (hL : L ≤ 10000) (h0 : y ≠ 0) (hr : x.tmod y = r) : Calls Tryd.prog 22 #[a, b] w (OkPost K 0 r w) := by
  have := nrem ha hb hK hL
  rw [show remZ x y = some r by unfold remZ; rw [if_neg h0, hr]] at this
  exact this.mono fun _ _ h => ok_post h
theorem ncmpV {K L : Nat} {w : World} {a b : Value} {x y z : Int} (ha : NumIs K w a x) (hb : NumIs L w b y) (hK : K ≤ 10000) (hL : L ≤ 10000) (h : cmpZ x y = z) : Calls Tryd.prog 31 #[a, b] w fun e w' => e = .returned (.int .i64 z) ∧ Below w.heap.size w w' := by
  subst h; exact ncmp ha hb hK hL
/-- a number's parts -/
def PtPost (mb : Bool) (x : Int) (w : World) (e : Ending) (w' : World) : Prop := (∃ s l c, e = .returned (.tuple #[.bool mb, .slice s l c]) ∧ U32s w' (.slice s l c) (digB x.natAbs)) ∧ Below w.heap.size w w'
theorem nparts {K : Nat} {w : World} {a : Value} {x : Int} (mb : Bool) (hm : decide (x < 0) = mb) (ha : NumIs K w a x) (hK : K ≤ 10000) : Calls Tryd.prog 15 #[a] w (PtPost mb x w) :=
  (pParts_any x (Nat.le_trans ha.2 hK) a w ha.1).mono fun _ _ ⟨⟨v, he, hu⟩, hb⟩ => by
    subst hm
    obtain ⟨s, c, rfl⟩ := hu.val
    exact ⟨⟨_, _, _, he, hu⟩, hb⟩
theorem njoin {K : Nat} {w : World} {v : Value} {x : Int} (mb : Bool) (hm : decide (x < 0) = mb) (hx : (digB x.natAbs).length ≤ K) (hK : K ≤ 100) (hu : U32s w v (digB x.natAbs)) : Calls Tryd.prog 13 #[.bool mb, v] w (OkPost K 0 x w) := by
  subst hm
  have h := pJoin_any (decide (x < 0)) v (digB x.natAbs) (Nat.le_trans hx hK) (fun j _ => dig_lt32 _ j) w hu
  rw [join_parts] at h
  exact h.mono fun _ _ h => ok_post (err_post h hx)
theorem nsmallY {K : Nat} {w : World} {a : Value} {x : Int} (ha : NumIs K w a x) (hK : K ≤ 10000) (h : smallB x = true) : Calls Tryd.prog 18 #[a] w fun e w' => e = .returned (.tuple #[.int .i64 x, .bool true]) ∧ Below w.heap.size w w' := by
  have := pSmall_any x (Nat.le_trans ha.2 hK) a w ha.1
  unfold SmallPost at this
  rwa [smallV_yes h] at this
theorem nsmallN {K : Nat} {w : World} {a : Value} {x : Int} (ha : NumIs K w a x) (hK : K ≤ 10000) (h : smallB x = false) : Calls Tryd.prog 18 #[a] w fun e w' => e = .returned (.tuple #[.int .i64 0, .bool false]) ∧ Below w.heap.size w w' := by
  have := pSmall_any x (Nat.le_trans ha.2 hK) a w ha.1
  unfold SmallPost at this
  rwa [smallV_no h] at this
theorem text_ne {x y : Int} {S T : ByteArray} (hS : (⟨(textZ x).toArray⟩ : ByteArray) = S) (hT : (⟨(textZ y).toArray⟩ : ByteArray) = T) (h : x ≠ y) : (S.toList == T.toList) = false := by
  subst hS
  subst hT
  apply beq_false_of_ne
  intro h1
  apply h
  apply text_inj
  have h2 : ∀ l : List UInt8, (⟨l.toArray⟩ : ByteArray).toList = l := fun l => by
    rw [ByteArray.toList_eq]
  rw [h2, h2] at h1
  exact h1
theorem nsmall {K : Nat} {w : World} {a : Value} {x : Int} (ha : NumIs K w a x) (hK : K ≤ 10000) : Calls Tryd.prog 18 #[a] w (SmallPost x w) := pSmall_any x (Nat.le_trans ha.2 hK) a w ha.1
theorem nreadT {K : Nat} (x : Int) (S : ByteArray) (hS : (⟨(textZ x).toArray⟩ : ByteArray) = S) (hx : (digB x.natAbs).length ≤ K) (hK : K ≤ 800) (w : World) : Calls Tryd.prog 9 #[.string S] w (OkPost (K + 1) 0 x w) := by
  subst hS
  have hl := text_len x hx
  have h := pRead_any ⟨(textZ x).toArray⟩ (by rw [ba_size]; omega) w
  rw [ba_mk, read_text] at h
  exact h.mono fun _ _ h => ok_post (err_post h (Nat.le_trans hx (Nat.le_succ _)))
theorem small_range {x : Int} (h : smallB x = true) : -9223372036854775808 ≤ x ∧ x ≤ 9223372036854775807 := by
  unfold smallB at h
  rw [Bool.and_eq_true] at h
  have h1 := of_decide_eq_true h.1
  have h2 := of_decide_eq_true h.2
  rw [lowZ_eq] at h1
  rw [highZ_eq] at h2
  omega
theorem cmpZ_eq {x y : Int} (h : x = y) : cmpZ x y = 0 := by unfold cmpZ; rw [if_neg (by omega), if_pos h]
theorem take_any {P : Program} {md : Region.Mode} {ops : Array Oper} {Q : Exit → Act → World → Prop} {S : World → Prop} {fuel : Nat} {listed : Array Bool} {a : Act} {w : World} (i : Nat) (d : Tmp) {oi : Oper} {v : Value} (hi : ops[i]? = some oi) (hd : oi.dst = some d)
    (hs : Region.noSelect ops = true) (hf : Region.free md ops listed i = true) (hr : (Region.ready md ops listed).contains i = true)
    (hQ : ∀ c a w, Q (.panic c) (a.put (some d) v) w → Q (.panic c) a w) (hy : YieldsIf P ops S oi v a) (hS : S w)
    (h : wpAnyH P md ops Q S fuel (listed.setIfInBounds i true) (a.put (some d) v) w) : wpAnyH P md ops Q S (fuel + 1) listed a w := by
  rw [← hd] at h hQ
  exact wpAnyH_take hi hs hf hr hQ hy hS h
theorem take_call {P : Program} {md : Region.Mode} {ops : Array Oper} {Q : Exit → Act → World → Prop} {S : World → Prop} {fuel : Nat} {listed : Array Bool} {a : Act} {w : World} (i : Nat) {o : Oper} (hi : ops[i]? = some o) (hr : Region.ready md ops listed = [i])
    (h : ∀ K' : Act → World → Prop, Shut (∀ a w, S w → (S w → wpAnyH P md ops Q S fuel (listed.setIfInBounds i true) a w) → K' a w) → if Region.wanted o (yielded ops a.tmps) = true then Oper.wp P o a w K' Q else K' (a.put o.dst undef) w) : wpAnyH P md ops Q S (fuel + 1) listed a w :=
  wpAnyH_ready hr (by simp) (AllReadyH.cons hi h AllReadyH.nil)
end Go.Proofs.YtibhfcnjmilepaaDoor
