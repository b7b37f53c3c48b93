import Derived.Test.YtibhfcnjmilepaaDoorNumAI
namespace Go.Proofs.YtibhfcnjmilepaaDoor
open Go.RowKit

def bcs (l : List UInt8) : List Value := l.map fun b => Value.int .u8 (b.toNat : Int)
theorem Tryd.infoByte : (Tryd.prog.info? 5).map (fun i => (i.zero, i.size, i.bytes)) = some (some (.int .u8 0), 1, 1) := by kernel_rfl
theorem bcs_app (l m : List UInt8) : bcs (l ++ m) = bcs l ++ bcs m := List.map_append
theorem byteCells_bcs (l : List UInt8) : Lib.byteCells l = bcs l := rfl
theorem strCells_bcs (s : ByteArray) : Lib.strCells s = bcs s.data.toList := rfl
theorem dec_same (u : Nat) : Lib.decDigits u = decN u := by
  induction u using Nat.strongRecOn with
  | ind u ih =>
    by_cases h : u < 10
    · rw [Lib.decDigits, dif_pos h, decN_small h]; rfl
    · rw [Lib.decDigits, dif_neg h, decN_big (by omega), ih (u / 10) (by omega)]; rfl
theorem itoa_nat (n : Nat) : Lib.itoa (n : Int) = decN n := by
  unfold Lib.itoa
  rw [if_neg (by omega), Int.toNat_natCast, dec_same]
/-- nine digits, with the noughts ahead -/
theorem pad_nine {d : Nat} (hd : d < bigB) : (decN (bigB + d)).length = 10 ∧ allD ((decN (bigB + d)).drop 1) ∧ ((decN (bigB + d)).drop 1).length = 9 ∧ valL ((decN (bigB + d)).drop 1) = d := by
  have hB := bigB_eq
  have h1 : (decN (bigB + d)).length ≤ 10 := (dec_len (by omega)).2 (by rw [hB] at hd ⊢; omega)
  have h2 : ¬ (decN (bigB + d)).length ≤ 9 := fun h => by
    have := (dec_len (by omega)).1 h
    rw [hB] at this
    omega
  have hl : (decN (bigB + d)).length = 10 := by omega
  have hall := dec_allD (bigB + d)
  have hv := val_dec (bigB + d)
  match hx : decN (bigB + d), hl with
  | c :: P, hl =>
    rw [hx] at hall hv
    have hP : P.length = 9 := by simpa using hl
    have hPD : allD P := fun x hx => hall x (by simp [hx])
    rw [val_cons, hP] at hv
    have hlt := val_lt P hPD
    rw [hP] at hlt
    refine ⟨by simp [hP], hPD, hP, ?_⟩
    show valL P = d
    have hc := (isD_nat c).1 (hall c (by simp))
    rw [hB] at hv hd
    omega
/-- a group of nine more -/
theorem dec_group {X P : List UInt8} {L : List Nat} {k d : Nat} (hX : valL X = valB (L.drop (k + 1))) (hP : P.length = 9) (hd : valL P = d) (hk : d = L.getD k 0) : valL (X ++ P) = valB (L.drop k) := by
  rw [val_app, hP, hd, hX, valB_dropD L k, ← hk, show (10 : Nat) ^ 9 = bigB from rfl, Nat.mul_comm, Nat.add_comm]
theorem own_bytes {w : World} {B n : Nat} {e : TypeId} {v : Value} {l : List UInt8} (h : w.ownsRow B e 1 v n (bcs l)) (h0 : 0 < n) : ∃ g cap, v = .slice (some ⟨g, 0, none⟩) l.length cap ∧ ∀ j (hj : j < l.length), w.cell? ((⟨g, 0, none⟩ : Addr).add j) = some (.int .u8 (l[j].toNat : Int)) := by
  have hn : n = l.length := by have := h.1; unfold bcs at this; rw [List.length_map, Nat.mul_one] at this; exact this.symm
  have hc := @World.ownsRow.cells _ _ _ _ _ _ _ h
  rcases h.2 with ⟨_, h1⟩ | ⟨g, cap, cur, rfl, _⟩
  · omega
  · refine ⟨g, cap, by rw [hn], fun j hj => ?_⟩
    have := hc (g := g) rfl j (.int .u8 (l[j].toNat : Int)) (by unfold bcs; rw [List.getElem?_map, List.getElem?_eq_getElem hj]; rfl)
    exact this
/-- the table that strconv reads, in whatever world is behind this one -/
def TabW (w : World) : Prop := Lib.TabIs Tryd.prog w "internal/strconv.uint64pow10" .u64 Lib.pow10Tab
theorem TabW.below {w w' : World} (h : TabW w) (hb : Below w.heap.size w w') : TabW w' := by
  unfold TabW Lib.TabIs at *
  unfold World.var? at h ⊢
  cases hg : Tryd.prog.globalNamed "internal/strconv.uint64pow10" with
  | none => simp [hg] at h
  | some g =>
    simp only [hg, Option.bind_some] at h ⊢
    have hlt : g < w.heap.size := by
      rcases Nat.lt_or_ge g w.heap.size with h' | h'
      · exact h'
      · simp [Array.getElem?_eq_none h'] at h
    rw [hb.block g hlt]
    exact h

set_option maxRecDepth 100000 in
set_option maxHeartbeats 4000000 in
theorem appuint_any (u : Nat) (hu : u < 18446744073709551616) (w : World) (ht : TabW w) :
    Calls Tryd.prog 53 #[.slice none 0 0, .int .u64 u, .int .i64 10] w fun e w' => (∃ v, e = .returned v ∧ w'.ownsRow w.heap.size 5 1 v (decN u).length (bcs (decN u))) ∧ Below w.heap.size w w' := by
  have AP := Tryd.internal_strconv_AppendUint_10 w.heap.size 0 u hu (.slice none 0 0) [] w (World.ownsRow_nil _ _ _ _) (Nat.le_refl _) (by omega) ht
  rw [dec_same, byteCells_bcs] at AP
  have HAP := Lib.hid AP
  clear AP ht
  go_enter Tryd.func53, Tryd.ntmps53
  go_wp2_with fail
  refine HAP.out.mono ?_
  rintro e w1 ⟨v, rfl, hown, hb, _⟩
  rw [Nat.zero_add, List.nil_append] at hown
  have HOWN := Lib.hid hown
  have HB := Lib.hid hb
  clear hown hb
  go_wp2
  go_ret
  exact ⟨⟨v, rfl, HOWN.out⟩, HB.out⟩

def DecRel (B0 n : Nat) (L : List Nat) (w : World) (b i : Value) (wr : World) : Prop :=
  ∃ (X : List UInt8) (k : Nat), k < n ∧ i = .int .i64 k ∧ X.length ≤ 10 * (k + 1) ∧ 0 < X.length ∧ Hid (allD X) ∧ Hid (X.head? ≠ some 48) ∧ Hid (valL X = valB (L.drop (n - 1 - k))) ∧ Hid (wr.ownsRow B0 5 1 b X.length (bcs X)) ∧ Hid (Below B0 w wr)

set_option maxRecDepth 100000 in
set_option maxHeartbeats 4000000 in
theorem pdecimal_any (x : Nat) (hx : (digB x).length ≤ 10000) (h0 : 0 < x) (va : Value) (w : World) (ha : U32s w va (digB x)) (ht : TabW w) :
    Calls Tryd.prog 38 #[va] w fun e w' => e = .returned (.string (decS x)) ∧ Below w.heap.size w w' := by
  obtain ⟨pa, ca, rfl⟩ := ha.val
  obtain ⟨n, hn⟩ : ∃ n, n = (digB x).length := ⟨_, rfl⟩
  have hn0 : 0 < n := by rw [hn, digB_pos h0]; simp
  obtain ⟨i0, hi, hz0, hz1, hz2⟩ := info_parts Tryd.infoByte
  obtain ⟨t, htn⟩ : ∃ t, n = t + 1 := ⟨n - 1, by omega⟩
  obtain ⟨b2, o2, rfl, hb2, hct⟩ := ha.at (show t < (digB x).length by omega)
  rw [← hn] at ha hx ⊢
  obtain ⟨d, hd⟩ : ∃ d, d = (digB x).getD t 0 := ⟨_, rfl⟩
  rw [← hd] at hct
  unfold u32V at hct
  have hdB : d < bigB := by rw [hd]; exact okB_getD (digB_ok _) _
  have hd0 : 0 < d := by
    have := digB_top x
    unfold topB at this
    rcases d with _ | d
    · exfalso
      apply this
      rw [List.getLast?_eq_getElem?, ← hn, htn, Nat.add_sub_cancel]
      rw [List.getD_eq_getElem?_getD, List.getElem?_eq_getElem (by omega), Option.getD_some] at hd
      rw [List.getElem?_eq_getElem (by omega), ← hd]
    · omega
  have AP := appuint_any d (by have := bigB_eq; omega) w ht
  have HAP := Lib.hid AP
  have HA := Lib.hid ha
  have HN := Lib.hid hn
  have HD := Lib.hid hd
  have HT := Lib.hid ht
  have hti : (n : Int) - 1 = (t : Int) := by omega
  have t0 : (0 : Int) ≤ t := Int.natCast_nonneg _
  have tn : (t : Int) < n := by omega
  have dI : (d : Int) < 1000000000 := by have := bigB_eq; omega
  have d00 : (0 : Int) ≤ d := Int.natCast_nonneg _
  have HTN := Lib.hid htn
  clear AP ha hn hd ht hb2 htn
  go_enter Tryd.func38, Tryd.ntmps38
  go_wp2_with fail
  refine HAP.out.mono ?_
  rintro e w1 ⟨⟨v1, rfl, hown1⟩, hb1⟩
  have hdl : (decN d).length ≤ 10 := (dec_len (by omega)).2 (by have := bigB_eq; omega)
  have hdp := dec_pos d
  have hh : (decN d).head? ≠ some 48 := by
    rcases dec_canon d with ⟨_, h | h⟩
    · intro h48
      match hc : decN d, h with
      | [c], _ =>
        rw [hc] at h48
        simp only [List.head?_cons, Option.some.injEq] at h48
        have := val_dec d
        rw [hc, h48] at this
        simp [valL] at this
        omega
    · exact h
  have hv0 : valL (decN d) = valB ((digB x).drop (n - 1 - 0)) := by
    rw [val_dec, show n - 1 - 0 = t by have := HTN.out; omega, valB_dropD, List.drop_of_length_le (by have := HN.out; omega), ← HD.out]
    simp [valB]
  have HOWN1 := Lib.hid hown1
  have HB1 := Lib.hid hb1
  have HH := Lib.hid hh
  have HV0 := Lib.hid hv0
  clear hown1 hb1 hh hv0 hct
  go_wp2
  go_loopw [4, 17] (fun b i wr => DecRel w.heap.size n (digB x) w b i wr) (fun _ i _ => n - (intOf i).toNat)
  case atStart => exact ⟨decN d, 0, hn0, rfl, by omega, hdp, Lib.hid (dec_allD d), HH, HV0, HOWN1, HB1⟩
  case round =>
    obtain ⟨X, k, hk, rfl, hXl, hX0, HXD, HXH, HXV, HXO, HBL⟩ := hrel
    have k0 : (0 : Int) ≤ k := Int.natCast_nonneg _
    by_cases hgo : k < t
    · have g1 : (k : Int) < t := by omega
      obtain ⟨s, hs⟩ : ∃ s, s + 1 + k = t := ⟨t - 1 - k, by omega⟩
      have hsi : (t : Int) - 1 - k = (s : Int) := by omega
      have s0 : (0 : Int) ≤ s := Int.natCast_nonneg _
      have sn : (s : Int) < n := by omega
      obtain ⟨b3, o3, hp3, hb3, hc3⟩ := HA.out.at (show s < (digB x).length by have := HN.out; omega)
      cases hp3
      obtain ⟨y, hy⟩ : ∃ y, y = (digB x).getD s 0 := ⟨_, rfl⟩
      rw [← hy] at hc3
      have hcy : wr.cell? ⟨b2, o2 + s, none⟩ = some (.int .u32 y) := (HBL.out.cell (p := ⟨b2, o2 + s, none⟩) hb3).trans hc3
      have hyB : y < bigB := by rw [hy]; exact okB_getD (digB_ok _) _
      have yI : (y : Int) < 1000000000 := by have := bigB_eq; omega
      have y0 : (0 : Int) ≤ y := Int.natCast_nonneg _
      obtain ⟨p1, p2, p3, p4⟩ := pad_nine hyB
      have IT := Tryd.strconv_Itoa (1000000000 + (y : Int)) (by omega) (by omega) wr (HT.out.below HBL.out)
      have hit : Lib.itoa (1000000000 + (y : Int)) = decN (bigB + y) := by
        have : (1000000000 + (y : Int)) = ((bigB + y : Nat) : Int) := by rw [bigB_eq]; omega
        rw [this, itoa_nat]
      rw [hit] at IT
      have HIT := Lib.hid IT
      obtain ⟨P, hP⟩ : ∃ P, P = (decN (bigB + y)).drop 1 := ⟨_, rfl⟩
      rw [← hP] at p2 p3 p4
      have hgr := dec_group (X := X) (P := P) (L := digB x) (k := s) (by rw [HXV.out]; congr 2; have := HTN.out; omega) p3 p4 hy
      have HGR := Lib.hid hgr
      have hPe : P = ((⟨(decN (bigB + y)).toArray⟩ : ByteArray).extract 1 (⟨(decN (bigB + y)).toArray⟩ : ByteArray).size).data.toList := by
        rw [ext_tail, hP, ba_mk]
      obtain ⟨Z, hZ⟩ : ∃ Z : ByteArray, Z = ⟨(decN (bigB + y)).toArray⟩ := ⟨_, rfl⟩
      rw [← hZ] at HIT hPe
      have hZs : Z.size = 10 := by rw [hZ, ba_size, p1]
      rw [hZs] at hPe
      have HPE := Lib.hid hPe
      have P2 := Lib.hid p2
      have P3 := Lib.hid p3
      clear IT hit hP p1 p2 p3 p4 hgr hPe hZ hc3 hy hyB
      go_wp2_with fail
      refine HIT.out.mono ?_
      rintro e w5 ⟨rfl, kk, os, hw5⟩
      have hb5 : Below w.heap.size w w5 := HBL.out.trans (by rw [hw5]; exact Lib.below_grow w.heap.size wr HBL.out.size kk os)
      have hown5 := Lib.ownsRow_grow HXO.out kk os
      rw [← hw5] at hown5
      have HB5 := Lib.hid hb5
      have HO5 := Lib.hid hown5
      have hbB := hb5.size
      have hEs : (Z.extract 1 10).size = 9 := by simp [ByteArray.size_extract, hZs]
      have K1 : X.length + (Z.extract 1 10).size ≤ maxLen := by rw [hEs]; unfold maxLen; omega
      have K2 : X.length + (Z.extract 1 10).size ≤ 140737488355328 := by rw [hEs]; omega
      have K1h := Lib.hid K1
      have K2h := Lib.hid K2
      have HES := Lib.hid hEs
      have OWN5 := Lib.hid hown5
      clear hw5 hb5 hown5 K1 K2 hEs
      go_wp2_with (at_builtin; refine Lib.wpList_append_own_string _ rfl _ _ 64 9 rfl w.heap.size 5 i0 Tryd.underlying64 Tryd.underlying9 hi hz0 hz1 hz2 _ _ _ rfl OWN5.out (Z.extract 1 10) rfl K1h.out K2h.out hbB ?_)
      intro v' w6 hown6 hgrow _
      have hown7 : w6.ownsRow w.heap.size 5 1 v' (X ++ P).length (bcs (X ++ P)) := by
        rw [strCells_bcs, ← HPE.out, ← bcs_app] at hown6
        rw [List.length_append, P3.out]
        exact hown6
      have HO7 := Lib.hid hown7
      have HB7 := Lib.hid (HB5.out.grown hgrow hbB (fun k hk => (OWN5.out.lt k hk).1))
      have HXD7 : Hid (allD (X ++ P)) := fun c hc => by
        rcases List.mem_append.1 hc with hc | hc
        · exact HXD.out c hc
        · exact P2.out c hc
      have HXH7 : Hid ((X ++ P).head? ≠ some 48) := by
        match X, hX0, HXH with
        | c :: X', _, h => exact h
      clear hown6 hgrow hown7
      go_wp2
      exact ⟨⟨X ++ P, k + 1, by have := HTN.out; omega, by go_num, by rw [List.length_append, P3.out]; omega, by rw [List.length_append]; omega, HXD7, HXH7, Lib.hid (by rw [HGR.out]; congr 2; have := HTN.out; omega), HO7, HB7⟩, by simp [intOf]; omega⟩
    · have g1 : ¬ (k : Int) < t := by omega
      have hkt : n - 1 - k = 0 := by have := HTN.out; omega
      have hv := HXV.out
      rw [hkt, List.drop_zero, valB_digB] at hv
      have hXx : X = decN x := by
        rw [← hv]
        refine (canon_val _ X rfl HXD.out ⟨?_, .inr HXH.out⟩).symm
        intro h; rw [h] at hX0; simp at hX0
      obtain ⟨g, cap, hbv, hcells⟩ := own_bytes HXO.out hX0
      subst hbv
      have hconv := run_convert_bytes_back (P := Tryd.prog) wr 64 9 5 ⟨g, 0, none⟩ cap X Tryd.underlying64 Tryd.underlying5 Tryd.underlying9 hcells
      have HXX := Lib.hid hXx
      clear hkt hv hXx hcells
      go_wp2
      go_ret
      exact ⟨ret_str (by rw [HXX.out]; rfl), HBL.out⟩
end Go.Proofs.YtibhfcnjmilepaaDoor
