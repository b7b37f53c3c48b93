import Derived.Test.YtdjhjapfmbcmlaaDoorTyF
import Derived.Test.YtdjhjapfmbcmlaaDoorTyD
import Derived.Test.YtdjhjapfmbcmlaaDoorTyJd
import Derived.StillTailTactics
import Derived.Deep.CutRange
namespace Go.Proofs.YtdjhjapfmbcmlaaDoor
open Go.RowKit

def JoinOK (n : Nat) : Prop := ∀ (N : Nat → Prop) (a b : Ty) (va vb : Value) (w : World), (∀ x, N x → x < w.heap.size) → szT a + szT b ≤ n → okTy a → okTy b → TyVN N w va a → TyVN N w vb b →
    Calls Tryd.prog 19 #[va, vb] w (TyPost N (joinF n a b) w)
theorem Stay.of_grown {G : Nat} {w w' : World} {own : Option Nat} (hg : w.grownBy w' own) (hb : Below G w w') (ho : ∀ k, own = some k → k = G) : Stay (· = G) w w' :=
  ⟨hb.os, hb.tape, hb.output, hb.size, fun k hk hn => hg.block k hk fun e => hn (ho k e.symm)⟩
theorem RawOf.v {w : World} {N : Nat → Prop} {r : RawT} {t : Ty} (h : RawOf w (Lo N w) r t) : TyVN N w (rawV r) t := ⟨r, rfl, h⟩

set_option maxRecDepth 100000 in
set_option maxHeartbeats 40000000 in
theorem join_succ (n : Nat) (ih : JoinOK n) : JoinOK (n + 1) := by
  intro N a b va vb w hN hsz hoa hob hva hvb
  have hha := head_of hoa
  have hhb := head_of hob
  have hca := @car_size a hoa
  have hcb := @car_size b hob
  have hda := @cdr_size a hoa
  have hdb := @cdr_size b hob
  have hrec : joinF (n + 1) a b = if a.all || b.all then tyAll else
    .mk false (flatJoin a.flat b.flat)
      (if a.pair = 0 then b.pair else if b.pair = 0 then a.pair else if a.pair = 1 ∨ b.pair = 1 then 1 else a.pair)
      (if a.pair = 0 then b.pairs else if b.pair = 0 then a.pairs else if a.pair = 1 ∨ b.pair = 1 then [joinF n (carT a) (carT b), joinF n (cdrT a) (cdrT b)] else [joinF n (carT a) (carT b)])
      (if a.fn = 0 then b.fn else if b.fn = 0 then a.fn else if a.fn = b.fn ∧ samesT a.funs b.funs = true then a.fn else 2)
      (if a.fn = 0 then b.funs else if b.fn = 0 then a.funs else if a.fn = b.fn ∧ samesT a.funs b.funs = true then a.funs else []) := rfl
  have HVA := Lib.hid hva
  have HVB := Lib.hid hvb
  obtain ⟨pa, pc, fa, fc, rfl, hap, haf⟩ := hva.form
  obtain ⟨qa, qc, ga, gc, rfl, hbp, hbf⟩ := hvb.form
  obtain ⟨xa, hxa⟩ : ∃ z, z = a.all := ⟨_, rfl⟩
  obtain ⟨xp, hxp⟩ : ∃ z, z = a.pair := ⟨_, rfl⟩
  obtain ⟨xn, hxn⟩ : ∃ z, z = a.fn := ⟨_, rfl⟩
  obtain ⟨ya, hya⟩ : ∃ z, z = b.all := ⟨_, rfl⟩
  obtain ⟨yp, hyp⟩ : ∃ z, z = b.pair := ⟨_, rfl⟩
  obtain ⟨yn, hyn⟩ : ∃ z, z = b.fn := ⟨_, rfl⟩
  obtain ⟨F, hF⟩ : ∃ F : Nat, a.flat = F := ⟨a.flat.toNat, by omega⟩
  obtain ⟨G, hG⟩ : ∃ G : Nat, b.flat = G := ⟨b.flat.toNat, by omega⟩
  obtain ⟨np, hnp⟩ : ∃ n, n = a.pairs.length := ⟨_, rfl⟩
  obtain ⟨nf, hnf⟩ : ∃ n, n = a.funs.length := ⟨_, rfl⟩
  obtain ⟨mp, hmp⟩ : ∃ n, n = b.pairs.length := ⟨_, rfl⟩
  obtain ⟨mf, hmf⟩ : ∃ n, n = b.funs.length := ⟨_, rfl⟩
  rw [hF, ← hxa, ← hxp, ← hxn, ← hnp, ← hnf] at hha HVA
  rw [hG, ← hya, ← hyp, ← hyn, ← hmp, ← hmf] at hhb HVB
  rw [hF, hG, ← hxa, ← hya, ← hxp, ← hyp, ← hxn, ← hyn] at hrec
  rw [← hxa, ← hxp] at hca hda
  rw [← hya, ← hyp] at hcb hdb
  rw [← hnf] at haf
  rw [← hmf] at hbf
  rw [← hnp] at hap
  rw [← hmp] at hbp
  rw [hF, hG, ← hxa, ← hya, ← hxp, ← hyp, ← hxn, ← hyn, ← hnp, ← hnf, ← hmp, ← hmf]
  have HR := Lib.hid hrec
  have HHA := Lib.hid hha
  have HHB := Lib.hid hhb
  have HCA := Lib.hid hca
  have HCB := Lib.hid hcb
  have HDA := Lib.hid hda
  have HDB := Lib.hid hdb
  have HSZ := Lib.hid hsz
  have HI := Lib.hid ih
  have HN := Lib.hid hN
  have HAP := Lib.hid hap
  have HAF := Lib.hid haf
  have HBP := Lib.hid hbp
  have HBF := Lib.hid hbf
  have HXN := Lib.hid hxn
  have HYN := Lib.hid hyn
  have hF1 : (F : Int) ≤ 63 := by omega
  have hF0 : (0 : Int) ≤ F := Int.natCast_nonneg _
  have hG1 : (G : Int) ≤ 63 := by omega
  have hG0 : (0 : Int) ≤ G := Int.natCast_nonneg _
  clear hap haf hbp hbf hnp hnf hmp hmf hxa hxp hxn hya hyp hyn hF hG ih hva hvb hrec hha hhb hca hcb hda hdb hsz hoa hob hN
  cases xa with
  | true =>
    have hres : joinF (n + 1) a b = tyAll := by rw [HR.out]; simp
    have HRES := Lib.hid hres
    clear hres
    go_enter Tryd.func19, Tryd.ntmps19
    go_wp2
    refine bodyPost_ret (v := .agg #[.bool true, .int .i64 0, .int .i64 0, .slice none 0 0, .int .i64 0, .slice none 0 0]) ?_ ?_ ?_
    · simp [results, Tryd.results19, go_sem]
    · rfl
    · exact ⟨⟨_, rfl, by rw [HRES.out]; exact tyAll_v _ _⟩, (((Below.refl _ _).alloc (Nat.le_refl _) _).alloc (by simp) _).alloc (by simp; omega) _⟩
  | false =>
  cases ya with
  | true =>
    have hres : joinF (n + 1) a b = tyAll := by rw [HR.out]; simp
    have HRES := Lib.hid hres
    clear hres
    go_enter Tryd.func19, Tryd.ntmps19
    go_wp2
    refine bodyPost_ret (v := .agg #[.bool true, .int .i64 0, .int .i64 0, .slice none 0 0, .int .i64 0, .slice none 0 0]) ?_ ?_ ?_
    · simp [results, Tryd.results19, go_sem]
    · rfl
    · exact ⟨⟨_, rfl, by rw [HRES.out]; exact tyAll_v _ _⟩, (((Below.refl _ _).alloc (Nat.le_refl _) _).alloc (by simp) _).alloc (by simp; omega) _⟩
  | false =>
  obtain ⟨W, hW⟩ : ∃ W, W = (((w.alloc (.cells #[.bool false, .int .i64 F, .int .i64 xp, .slice pa np pc, .int .i64 xn, .slice fa nf fc] 24)).alloc (.cells #[.bool false, .int .i64 G, .int .i64 yp, .slice qa mp qc, .int .i64 yn, .slice ga mf gc] 24)).alloc (.cells #[.bool false, .int .i64 0, .int .i64 0, .slice none 0 0, .int .i64 0, .slice none 0 0] 24)).alloc (.cells #[.bool false, .int .i64 0, .int .i64 0, .slice none 0 0, .int .i64 0, .slice none 0 0] 24) := ⟨_, rfl⟩
  obtain ⟨g, hg⟩ : ∃ g, g = w.heap.size := ⟨_, rfl⟩
  obtain ⟨gr, hgr⟩ : ∃ z, z = g + 1 + 1 := ⟨_, rfl⟩
  obtain ⟨go, hgo⟩ : ∃ z, z = g + 1 + 1 + 1 := ⟨_, rfl⟩
  have hb1 : Below w.heap.size w (w.alloc (.cells #[.bool false, .int .i64 F, .int .i64 xp, .slice pa np pc, .int .i64 xn, .slice fa nf fc] 24)) := (Below.refl _ _).alloc (Nat.le_refl _) _
  have hb2 : Below (w.heap.size + 1) (w.alloc (.cells #[.bool false, .int .i64 F, .int .i64 xp, .slice pa np pc, .int .i64 xn, .slice fa nf fc] 24)) ((w.alloc (.cells #[.bool false, .int .i64 F, .int .i64 xp, .slice pa np pc, .int .i64 xn, .slice fa nf fc] 24)).alloc (.cells #[.bool false, .int .i64 G, .int .i64 yp, .slice qa mp qc, .int .i64 yn, .slice ga mf gc] 24)) := (Below.refl _ _).alloc (by simp) _
  have hb3 : Below (w.heap.size + 2) ((w.alloc (.cells #[.bool false, .int .i64 F, .int .i64 xp, .slice pa np pc, .int .i64 xn, .slice fa nf fc] 24)).alloc (.cells #[.bool false, .int .i64 G, .int .i64 yp, .slice qa mp qc, .int .i64 yn, .slice ga mf gc] 24)) (((w.alloc (.cells #[.bool false, .int .i64 F, .int .i64 xp, .slice pa np pc, .int .i64 xn, .slice fa nf fc] 24)).alloc (.cells #[.bool false, .int .i64 G, .int .i64 yp, .slice qa mp qc, .int .i64 yn, .slice ga mf gc] 24)).alloc (.cells #[.bool false, .int .i64 0, .int .i64 0, .slice none 0 0, .int .i64 0, .slice none 0 0] 24)) := (Below.refl _ _).alloc (by simp) _
  have hb4 : Below (w.heap.size + 3) (((w.alloc (.cells #[.bool false, .int .i64 F, .int .i64 xp, .slice pa np pc, .int .i64 xn, .slice fa nf fc] 24)).alloc (.cells #[.bool false, .int .i64 G, .int .i64 yp, .slice qa mp qc, .int .i64 yn, .slice ga mf gc] 24)).alloc (.cells #[.bool false, .int .i64 0, .int .i64 0, .slice none 0 0, .int .i64 0, .slice none 0 0] 24)) W := by rw [hW]; exact (Below.refl _ _).alloc (by simp) _
  have va := (((BoxAt.made w false F xp (.slice pa np pc) xn (.slice fa nf fc)).under hb2 (by omega)).under hb3 (by omega)).under hb4 (by omega)
  have vb := ((BoxAt.made (w.alloc (.cells #[.bool false, .int .i64 F, .int .i64 xp, .slice pa np pc, .int .i64 xn, .slice fa nf fc] 24)) false G yp (.slice qa mp qc) yn (.slice ga mf gc)).under hb3 (by simp)).under hb4 (by simp)
  have vr := (BoxAt.made ((w.alloc (.cells #[.bool false, .int .i64 F, .int .i64 xp, .slice pa np pc, .int .i64 xn, .slice fa nf fc] 24)).alloc (.cells #[.bool false, .int .i64 G, .int .i64 yp, .slice qa mp qc, .int .i64 yn, .slice ga mf gc] 24)) false 0 0 (.slice none 0 0) 0 (.slice none 0 0)).under hb4 (by simp)
  have vo : BoxAt W (go) false 0 0 (.slice none 0 0) 0 (.slice none 0 0) := by
    rw [hW, hgo, hg]
    have := BoxAt.made (((w.alloc (.cells #[.bool false, .int .i64 F, .int .i64 xp, .slice pa np pc, .int .i64 xn, .slice fa nf fc] 24)).alloc (.cells #[.bool false, .int .i64 G, .int .i64 yp, .slice qa mp qc, .int .i64 yn, .slice ga mf gc] 24)).alloc (.cells #[.bool false, .int .i64 0, .int .i64 0, .slice none 0 0, .int .i64 0, .slice none 0 0] 24)) false 0 0 (.slice none 0 0) 0 (.slice none 0 0)
    simpa using this
  have vb : BoxAt W (g + 1) false G yp (.slice qa mp qc) yn (.slice ga mf gc) := by rw [hg]; simpa using vb
  have vr : BoxAt W (gr) false 0 0 (.slice none 0 0) 0 (.slice none 0 0) := by rw [hgr, hg]; simpa using vr
  have va : BoxAt W g false F xp (.slice pa np pc) xn (.slice fa nf fc) := by rw [hg]; exact va
  have hbw : Below w.heap.size w W := ((hb1.trans (hb2.mono (by omega))).trans (hb3.mono (by omega))).trans (hb4.mono (by omega))
  have HVr := Lib.hid vr
  obtain ⟨M, hM⟩ : ∃ M : Nat → Prop, M = fun x => N x ∨ x = gr ∨ x = go := ⟨_, rfl⟩
  have HM2 := Lib.hid (show M (gr) by rw [hM]; exact .inr (.inl rfl))
  have HM3 := Lib.hid (show M (go) by rw [hM]; exact .inr (.inr rfl))
  have HMN := Lib.hid (show ∀ x, N x → M x by rw [hM]; exact fun x h => .inl h)
  have hml : ∀ x, M x → N x ∨ w.heap.size ≤ x := by
    rw [hM]
    rintro x (h | h | h)
    · exact .inl h
    · exact .inr (by omega)
    · exact .inr (by omega)
  have HML := Lib.hid (show ∀ x, M x → x < W.heap.size by
    intro x h
    rw [hM] at h
    rcases h with h | h | h
    · exact Nat.lt_of_lt_of_le (HN.out x h) hbw.size
    · rw [h]; exact vr.lt
    · rw [h]; exact vo.lt)
  have HGE := Lib.hid (show w.heap.size ≤ go by omega)
  have HGE2 := Lib.hid (show w.heap.size ≤ gr by omega)
  have NEa := Lib.hid (show g ≠ go by omega)
  have NEb := Lib.hid (show g + 1 ≠ go by omega)
  have NEr := Lib.hid (show gr ≠ go by omega)
  have HN1 := Lib.hid (HVA.out.later hbw hml)
  have HN2 := Lib.hid (HVB.out.later hbw hml)
  have HS1 := Lib.hid (TySN.later HAP.out hbw hml)
  have HS2 := Lib.hid (TySN.later HAF.out hbw hml)
  have HS3 := Lib.hid (TySN.later HBP.out hbw hml)
  have HS4 := Lib.hid (TySN.later HBF.out hbw hml)
  obtain ⟨JF, hJF⟩ : ∃ JF : World → Int → Prop, JF = fun wr s => BoxAt wr g false F xp (.slice pa np pc) xn (.slice fa nf fc) ∧ BoxAt wr (g + 1) false G yp (.slice qa mp qc) yn (.slice ga mf gc) ∧ BoxAt wr (gr) false 0 0 (.slice none 0 0) 0 (.slice none 0 0) ∧ BoxAt wr (go) false s 0 (.slice none 0 0) 0 (.slice none 0 0) ∧
    Below w.heap.size w wr ∧ W.heap.size ≤ wr.heap.size ∧ TyVN M wr (.agg #[.bool false, .int .i64 F, .int .i64 xp, .slice pa np pc, .int .i64 xn, .slice fa nf fc]) a ∧ TyVN M wr (.agg #[.bool false, .int .i64 G, .int .i64 yp, .slice qa mp qc, .int .i64 yn, .slice ga mf gc]) b ∧ TyS wr (Lo M wr) (.slice pa np pc) a.pairs ∧ TyS wr (Lo M wr) (.slice fa nf fc) a.funs ∧ TyS wr (Lo M wr) (.slice qa mp qc) b.pairs ∧ TyS wr (Lo M wr) (.slice ga mf gc) b.funs := ⟨_, rfl⟩
  have j0 : JF W 0 := by rw [hJF]; exact ⟨va, vb, vr, vo, hbw, Nat.le_refl _, HN1.out, HN2.out, HS1.out, HS2.out, HS3.out, HS4.out⟩
  have jstep : ∀ wr s s', JF wr s → JF (wr.setCell ⟨go, 1, none⟩ (.int .i64 s')) s' := by
    rw [hJF]
    rintro wr s s' ⟨h1, h2, h3, h4, h5, h6, h7, h8, h9, h10, h11, h12⟩
    exact ⟨h1.o NEa.out, h2.o NEb.out, h3.o NEr.out, h4.s1, h5.setCell (p := ⟨go, 1, none⟩) HGE.out _, by simpa [World.setCell] using h6, h7.set ⟨go, 1, none⟩ HM3.out _, h8.set ⟨go, 1, none⟩ HM3.out _, TySN.set h9 ⟨go, 1, none⟩ HM3.out _, TySN.set h10 ⟨go, 1, none⟩ HM3.out _, TySN.set h11 ⟨go, 1, none⟩ HM3.out _, TySN.set h12 ⟨go, 1, none⟩ HM3.out _⟩
  obtain ⟨JR, hJR⟩ : ∃ JR : World → Int → Int → Value → List Ty → Int → Value → List Ty → Prop, JR = fun wr s p pv ps k fv fs => BoxAt wr g false F xp (.slice pa np pc) xn (.slice fa nf fc) ∧ BoxAt wr (g + 1) false G yp (.slice qa mp qc) yn (.slice ga mf gc) ∧ BoxAt wr gr false 0 0 (.slice none 0 0) 0 (.slice none 0 0) ∧ BoxAt wr go false s p pv k fv ∧
    Below w.heap.size w wr ∧ W.heap.size ≤ wr.heap.size ∧ TyVN M wr (.agg #[.bool false, .int .i64 F, .int .i64 xp, .slice pa np pc, .int .i64 xn, .slice fa nf fc]) a ∧ TyVN M wr (.agg #[.bool false, .int .i64 G, .int .i64 yp, .slice qa mp qc, .int .i64 yn, .slice ga mf gc]) b ∧ (TyS wr (Lo M wr) (.slice pa np pc) a.pairs ∧ TyS wr (Lo M wr) (.slice fa nf fc) a.funs ∧ TyS wr (Lo M wr) (.slice qa mp qc) b.pairs ∧ TyS wr (Lo M wr) (.slice ga mf gc) b.funs) ∧ TyS wr (Lo M wr) pv ps ∧ TyS wr (Lo M wr) fv fs := ⟨_, rfl⟩
  have jfr : ∀ wr s, JF wr s → JR wr s 0 (.slice none 0 0) [] 0 (.slice none 0 0) [] := by
    rw [hJF, hJR]
    rintro wr s ⟨h1, h2, h3, h4, h5, h6, h7, h8, h9, h10, h11, h12⟩
    exact ⟨h1, h2, h3, h4, h5, h6, h7, h8, ⟨h9, h10, h11, h12⟩, .mkNil _ _, .mkNil _ _⟩
  have jr2 : ∀ wr s p pv ps k fv fs p', JR wr s p pv ps k fv fs → JR (wr.setCell ⟨go, 2, none⟩ (.int .i64 p')) s p' pv ps k fv fs := by
    rw [hJR]
    rintro wr s p pv ps k fv fs p' ⟨h1, h2, h3, h4, h5, h6, h7, h8, ⟨h9, h10, h11, h12⟩, h13, h14⟩
    exact ⟨h1.o NEa.out, h2.o NEb.out, h3.o NEr.out, h4.s2, h5.setCell (p := ⟨go, 2, none⟩) HGE.out _, by simpa [World.setCell] using h6, h7.set ⟨go, 2, none⟩ HM3.out _, h8.set ⟨go, 2, none⟩ HM3.out _, ⟨TySN.set h9 ⟨go, 2, none⟩ HM3.out _, TySN.set h10 ⟨go, 2, none⟩ HM3.out _, TySN.set h11 ⟨go, 2, none⟩ HM3.out _, TySN.set h12 ⟨go, 2, none⟩ HM3.out _⟩, TySN.set h13 ⟨go, 2, none⟩ HM3.out _, TySN.set h14 ⟨go, 2, none⟩ HM3.out _⟩
  have jr3 : ∀ wr s p pv ps k fv fs pv' ps', JR wr s p pv ps k fv fs → TyS wr (Lo M wr) pv' ps' → JR (wr.setCell ⟨go, 3, none⟩ pv') s p pv' ps' k fv fs := by
    rw [hJR]
    rintro wr s p pv ps k fv fs pv' ps' ⟨h1, h2, h3, h4, h5, h6, h7, h8, ⟨h9, h10, h11, h12⟩, h13, h14⟩ h15
    exact ⟨h1.o NEa.out, h2.o NEb.out, h3.o NEr.out, h4.s3, h5.setCell (p := ⟨go, 3, none⟩) HGE.out _, by simpa [World.setCell] using h6, h7.set ⟨go, 3, none⟩ HM3.out _, h8.set ⟨go, 3, none⟩ HM3.out _, ⟨TySN.set h9 ⟨go, 3, none⟩ HM3.out _, TySN.set h10 ⟨go, 3, none⟩ HM3.out _, TySN.set h11 ⟨go, 3, none⟩ HM3.out _, TySN.set h12 ⟨go, 3, none⟩ HM3.out _⟩, TySN.set h15 ⟨go, 3, none⟩ HM3.out _, TySN.set h14 ⟨go, 3, none⟩ HM3.out _⟩
  have jr4 : ∀ wr s p pv ps k fv fs k', JR wr s p pv ps k fv fs → JR (wr.setCell ⟨go, 4, none⟩ (.int .i64 k')) s p pv ps k' fv fs := by
    rw [hJR]
    rintro wr s p pv ps k fv fs k' ⟨h1, h2, h3, h4, h5, h6, h7, h8, ⟨h9, h10, h11, h12⟩, h13, h14⟩
    exact ⟨h1.o NEa.out, h2.o NEb.out, h3.o NEr.out, h4.s4, h5.setCell (p := ⟨go, 4, none⟩) HGE.out _, by simpa [World.setCell] using h6, h7.set ⟨go, 4, none⟩ HM3.out _, h8.set ⟨go, 4, none⟩ HM3.out _, ⟨TySN.set h9 ⟨go, 4, none⟩ HM3.out _, TySN.set h10 ⟨go, 4, none⟩ HM3.out _, TySN.set h11 ⟨go, 4, none⟩ HM3.out _, TySN.set h12 ⟨go, 4, none⟩ HM3.out _⟩, TySN.set h13 ⟨go, 4, none⟩ HM3.out _, TySN.set h14 ⟨go, 4, none⟩ HM3.out _⟩
  have jr5 : ∀ wr s p pv ps k fv fs fv' fs', JR wr s p pv ps k fv fs → TyS wr (Lo M wr) fv' fs' → JR (wr.setCell ⟨go, 5, none⟩ fv') s p pv ps k fv' fs' := by
    rw [hJR]
    rintro wr s p pv ps k fv fs fv' fs' ⟨h1, h2, h3, h4, h5, h6, h7, h8, ⟨h9, h10, h11, h12⟩, h13, h14⟩ h15
    exact ⟨h1.o NEa.out, h2.o NEb.out, h3.o NEr.out, h4.s5, h5.setCell (p := ⟨go, 5, none⟩) HGE.out _, by simpa [World.setCell] using h6, h7.set ⟨go, 5, none⟩ HM3.out _, h8.set ⟨go, 5, none⟩ HM3.out _, ⟨TySN.set h9 ⟨go, 5, none⟩ HM3.out _, TySN.set h10 ⟨go, 5, none⟩ HM3.out _, TySN.set h11 ⟨go, 5, none⟩ HM3.out _, TySN.set h12 ⟨go, 5, none⟩ HM3.out _⟩, TySN.set h13 ⟨go, 5, none⟩ HM3.out _, TySN.set h15 ⟨go, 5, none⟩ HM3.out _⟩
  have jrb : ∀ wr w' s p pv ps k fv fs, JR wr s p pv ps k fv fs → Below wr.heap.size wr w' → JR w' s p pv ps k fv fs := by
    rw [hJR]
    rintro wr w' s p pv ps k fv fs ⟨h1, h2, h3, h4, h5, h6, h7, h8, ⟨h9, h10, h11, h12⟩, h13, h14⟩ hb
    exact ⟨h1.keep hb, h2.keep hb, h3.keep hb, h4.keep hb, h5.trans (hb.mono h5.size), Nat.le_trans h6 hb.size, h7.below hb, h8.below hb, ⟨TySN.below h9 hb, TySN.below h10 hb, TySN.below h11 hb, TySN.below h12 hb⟩, TySN.below h13 hb, TySN.below h14 hb⟩
  have HJRF := Lib.hid jfr
  have HJ2 := Lib.hid jr2
  have HJ3 := Lib.hid jr3
  have HJ4 := Lib.hid jr4
  have HJ5 := Lib.hid jr5
  have HJB := Lib.hid jrb
  have HJR := Lib.hid hJR
  clear jfr jr2 jr3 jr4 jr5 jrb hJR
  have HJ0 := Lib.hid j0
  have HJS := Lib.hid jstep
  have HJF := Lib.hid hJF
  have HW := Lib.hid hW
  have HG := Lib.hid hg
  have HGR := Lib.hid hgr
  have HGO := Lib.hid hgo
  clear j0 jstep hJF hW hg hgr hgo hb1 hb2 hb3 hb4 va vb vr vo hbw hM hml HN1 HN2 HS1 HS2 HS3 HS4 HVr HVA HVB HAP HAF HBP HBF
  go_enter Tryd.func19, Tryd.ntmps19
  go_wp2
  rw [← HG.out, ← HGO.out, ← HGR.out, ← HW.out]
  go_loopw [6] (fun i wr => ∃ k : Nat, k ≤ 6 ∧ (∃ p : Nat, i = .int .i64 p ∧ 0 < p ∧ p ≤ 64 ∧ Hid (p = 2 ^ k)) ∧ ∃ s : Int, Hid (fjTo F G k = s) ∧ Hid (JF wr s)) (fun i _ => 64 - (intOf i).toNat)
  case atStart => exact ⟨0, by omega, ⟨1, rfl, by omega, by omega, Lib.hid rfl⟩, 0, Lib.hid rfl, HJ0⟩
  case round =>
    obtain ⟨k, hk, ⟨p, rfl, hp0, hp1, HP⟩, s, HFJ, HJ⟩ := hrel
    have hj := HJ.out
    rw [HJF.out] at hj
    obtain ⟨va, vb, vr, vo, hbw, hws, hna, hnb, hs1, hs2, hs3, hs4⟩ := hj
    have HVa := Lib.hid va
    have HVb := Lib.hid vb
    have HVr := Lib.hid vr
    have HVo := Lib.hid vo
    have HBW := Lib.hid hbw
    have HWS := Lib.hid hws
    have HNa := Lib.hid hna
    have HNb := Lib.hid hnb
    have HSap := Lib.hid hs1
    have HSaf := Lib.hid hs2
    have HSbp := Lib.hid hs3
    have HSbf := Lib.hid hs4
    clear va vb vr vo hbw hws hna hnb hs1 hs2 hs3 hs4
    by_cases hgo : p < 64
    · have hlt : (p : Int) < 64 := by omega
      have hk6 : k < 6 := by
        rcases Nat.lt_or_ge k 6 with h | h
        · exact h
        · have := HP.out; have h6 : k = 6 := by omega
          rw [h6] at this; omega
      have hp : (0 : Int) < p := by omega
      have hpne : ((p : Int) == 0) = false := beq_false_of_ne (by omega)
      obtain ⟨x, hx⟩ : ∃ x, x = F / p := ⟨_, rfl⟩
      obtain ⟨y, hy⟩ : ∃ y, y = G / p := ⟨_, rfl⟩
      have hxF : x ≤ F := by rw [hx]; exact Nat.div_le_self _ _
      have hyG : y ≤ G := by rw [hy]; exact Nat.div_le_self _ _
      have wx : wrap64 ((F : Int) / (p : Int)) = (x : Int) := by rw [show (F : Int) / (p : Int) = (x : Int) by rw [hx]; rfl]; exact wrap_in (by omega) (by omega)
      have wy : wrap64 ((G : Int) / (p : Int)) = (y : Int) := by rw [show (G : Int) / (p : Int) = (y : Int) by rw [hy]; rfl]; exact wrap_in (by omega) (by omega)
      have hnext : 2 * p = 2 ^ (k + 1) := by rw [HP.out, Nat.pow_succ, Nat.mul_comm]
      have hfs := fjTo_succ F G k
      have hfl := fjTo_lt F G k
      rw [← HP.out] at hfs hfl
      rw [bit_nat, bit_nat, ← hx, ← hy, HFJ.out] at hfs
      rw [HFJ.out] at hfl
      have hs0 : (0 : Int) ≤ s := hfl.1
      have hs1 : s < 64 := by omega
      have HNX2 := Lib.hid hnext
      have HK := Lib.hid hk6
      have HP1 := Lib.hid (show 0 < p ∧ p < 64 by omega)
      have HFS := Lib.hid hfs
      clear hx hy hxF hyG hnext hgo hk hp0 hp1 hk6 hfs hfl
      have qa1 := HVa.out.c1
      have tla := HVa.out.lt
      have qb1 := HVb.out.c1
      have tlb := HVb.out.lt
      have qo1 := HVo.out.c1
      have tlo := HVo.out.lt
      have zo0 := HVo.out.fr 0
      have zo1 := HVo.out.fr 1
      have zo2 := HVo.out.fr 2
      have zo3 := HVo.out.fr 3
      have zo4 := HVo.out.fr 4
      have zo5 := HVo.out.fr 5
      by_cases hx1 : x % 2 = 1
      · have mx : (x : Int).tmod 2 = 1 := by rw [show (x : Int).tmod 2 = ((x % 2 : Nat) : Int) from rfl, hx1]; rfl
        have hfs2 : fjTo F G (k + 1) = s + (p : Int) := by rw [HFS.out, if_pos (by simp [hx1])]
        have HFS2 := Lib.hid hfs2
        clear hx1 hfs2
        go_wp2
        refine ⟨⟨k + 1, by have := HK.out; omega, ⟨2 * p, by go_num, by have := HP1.out; omega, ?_, HNX2⟩, s + (p : Int), Lib.hid HFS2.out, Lib.hid (HJS.out wr s (s + (p : Int)) HJ.out)⟩, by have := HP1.out; simp [intOf]; omega⟩
        rw [HNX2.out]
        exact (Nat.pow_le_pow_right (by omega) (show k + 1 ≤ 6 by have := HK.out; omega) : 2 ^ (k + 1) ≤ 2 ^ 6)
      · have mx : (x : Int).tmod 2 = 0 := by rw [show (x : Int).tmod 2 = ((x % 2 : Nat) : Int) from rfl, show x % 2 = 0 by omega]; rfl
        by_cases hy1 : y % 2 = 1
        · have my : (y : Int).tmod 2 = 1 := by rw [show (y : Int).tmod 2 = ((y % 2 : Nat) : Int) from rfl, hy1]; rfl
          have hfs2 : fjTo F G (k + 1) = s + (p : Int) := by rw [HFS.out, if_pos (by simp [hy1])]
          have HFS2 := Lib.hid hfs2
          clear hx1 hy1 hfs2
          go_wp2
          refine ⟨⟨k + 1, by have := HK.out; omega, ⟨2 * p, by go_num, by have := HP1.out; omega, ?_, HNX2⟩, s + (p : Int), Lib.hid HFS2.out, Lib.hid (HJS.out wr s (s + (p : Int)) HJ.out)⟩, by have := HP1.out; simp [intOf]; omega⟩
          rw [HNX2.out]
          exact (Nat.pow_le_pow_right (by omega) (show k + 1 ≤ 6 by have := HK.out; omega) : 2 ^ (k + 1) ≤ 2 ^ 6)
        · have my : (y : Int).tmod 2 = 0 := by rw [show (y : Int).tmod 2 = ((y % 2 : Nat) : Int) from rfl, show y % 2 = 0 by omega]; rfl
          have hfs2 : fjTo F G (k + 1) = s := by rw [HFS.out, if_neg (by simp [hx1, hy1])]
          have HFS2 := Lib.hid hfs2
          clear hx1 hy1 hfs2
          go_wp2
          refine ⟨⟨k + 1, by have := HK.out; omega, ⟨2 * p, by go_num, by have := HP1.out; omega, ?_, HNX2⟩, s, Lib.hid HFS2.out, HJ⟩, by have := HP1.out; simp [intOf]; omega⟩
          rw [HNX2.out]
          exact (Nat.pow_le_pow_right (by omega) (show k + 1 ≤ 6 by have := HK.out; omega) : 2 ^ (k + 1) ≤ 2 ^ 6)
    · have hlt : ¬ (p : Int) < 64 := by omega
      have hk6 : k = 6 := by
        rcases Nat.lt_or_ge k 6 with h | h
        · have h1 := HP.out
          have h2 : 2 ^ k ≤ 2 ^ 5 := Nat.pow_le_pow_right (by omega) (by omega)
          omega
        · omega
      have hfin : flatJoin F G = s := by rw [← fjTo_six, ← hk6]; exact HFJ.out
      have HFIN := Lib.hid hfin
      have na := NEa.out
      have nb := NEb.out
      have nr := NEr.out
      have HJ0R := HJ
      clear hfin hk6 hgo hk hp0 hp1 HP HFJ HJ
      clear HVa HVb HVr HVo HBW HWS HNa HNb HSap HSaf HSbp HSbf
      have hjr := HJRF.out wr s HJ0R.out
      have HJR1 := Lib.hid hjr
      clear hjr
      obtain ⟨P, hP⟩ : ∃ z : Int, z = (if xp = 0 then yp else if yp = 0 then xp else if xp = 1 ∨ yp = 1 then 1 else xp) := ⟨_, rfl⟩
      have EP := Lib.hid hP
      obtain ⟨PS, hPS⟩ : ∃ z : List Ty, z = (if xp = 0 then b.pairs else if yp = 0 then a.pairs else if xp = 1 ∨ yp = 1 then [joinF n (carT a) (carT b), joinF n (cdrT a) (cdrT b)] else [joinF n (carT a) (carT b)]) := ⟨_, rfl⟩
      have EPS := Lib.hid hPS
      obtain ⟨K, hK⟩ : ∃ z : Int, z = (if xn = 0 then yn else if yn = 0 then xn else if xn = yn ∧ samesT a.funs b.funs = true then xn else 2) := ⟨_, rfl⟩
      have EK := Lib.hid hK
      obtain ⟨FS, hFS⟩ : ∃ z : List Ty, z = (if xn = 0 then b.funs else if yn = 0 then a.funs else if xn = yn ∧ samesT a.funs b.funs = true then a.funs else []) := ⟨_, rfl⟩
      have EFS := Lib.hid hFS
      obtain ⟨p1, hp1⟩ : ∃ z : Int, z = (if xp = 0 then yp else xp) := ⟨_, rfl⟩
      have Ep1 := Lib.hid hp1
      obtain ⟨ps1, hps1⟩ : ∃ z : List Ty, z = (if xp = 0 then b.pairs else a.pairs) := ⟨_, rfl⟩
      have Eps1 := Lib.hid hps1
      obtain ⟨k1, hk1⟩ : ∃ z : Int, z = (if xn = 0 then yn else xn) := ⟨_, rfl⟩
      have Ek1 := Lib.hid hk1
      obtain ⟨fs1, hfs1⟩ : ∃ z : List Ty, z = (if xn = 0 then b.funs else a.funs) := ⟨_, rfl⟩
      have Efs1 := Lib.hid hfs1
      have hres : joinF (n + 1) a b = .mk false s P PS K FS := by rw [HR.out, HFIN.out, hP, hPS, hK, hFS]; rfl
      have HRES := Lib.hid hres
      clear hP hPS hK hFS hp1 hps1 hk1 hfs1 hres
      have hjr := HJR1.out
      rw [HJR.out] at hjr
      obtain ⟨va, vb, vr, vo, hbw, hws, hna, hnb, ⟨hs1, hs2, hs3, hs4⟩, hs5, hs6⟩ := hjr
      have qa2 := va.c2
      have qa3 := va.c3
      have tla := va.lt
      have qo2 := vo.c2
      have qo3 := vo.c3
      have tlo := vo.lt
      have zo2 := vo.fr 2
      have zo3 := vo.fr 3
      have HS1 := Lib.hid hs1
      have HS2 := Lib.hid hs2
      have HS3 := Lib.hid hs3
      have HS4 := Lib.hid hs4
      have HS5 := Lib.hid hs5
      have HS6 := Lib.hid hs6
      have HNA := Lib.hid hna
      have HNB := Lib.hid hnb
      have HVO := Lib.hid vo
      have HVR := Lib.hid vr
      have HVA1 := Lib.hid va
      have HVB1 := Lib.hid vb
      have HBW := Lib.hid hbw
      clear va vb vr vo hbw hws hna hnb hs1 hs2 hs3 hs4 hs5 hs6
      go_upto_if 54 with fail
      obtain ⟨W5, hW5⟩ : ∃ W5, W5 = (wr.setCell ⟨go, 2, none⟩ (.int .i64 xp)).setCell ⟨go, 3, none⟩ (.slice pa np pc) := ⟨_, rfl⟩
      rw [← hW5]
      have HJR2 := Lib.hid (show JR W5 s xp (.slice pa np pc) a.pairs 0 (.slice none 0 0) [] by rw [hW5]; exact HJ3.out _ _ _ _ _ _ _ _ _ _ (HJ2.out _ _ _ _ _ _ _ _ xp HJR1.out) (TySN.set HS1.out ⟨go, 2, none⟩ HM3.out _))
      clear qa2 qa3 tla qo2 qo3 tlo zo2 zo3
      clear hW5 HJR1 HS1 HS2 HS3 HS4 HS5 HS6 HNA HNB HVO HVR HVA1 HVB1 HBW
      go_cut [] from 54 to 60 (fun w' => ∃ pv, Hid (JR w' s p1 pv ps1 0 (.slice none 0 0) []))
      case first =>
        have hjr := HJR2.out
        rw [HJR.out] at hjr
        obtain ⟨va, vb, vr, vo, hbw, hws, hna, hnb, ⟨hs1, hs2, hs3, hs4⟩, hs5, hs6⟩ := hjr
        have qa2 := va.c2
        have tla := va.lt
        have qb2 := vb.c2
        have qb3 := vb.c3
        have tlb := vb.lt
        have qo2 := vo.c2
        have qo3 := vo.c3
        have tlo := vo.lt
        have zo2 := vo.fr 2
        have zo3 := vo.fr 3
        have HS1 := Lib.hid hs1
        have HS2 := Lib.hid hs2
        have HS3 := Lib.hid hs3
        have HS4 := Lib.hid hs4
        have HS5 := Lib.hid hs5
        have HS6 := Lib.hid hs6
        have HNA := Lib.hid hna
        have HNB := Lib.hid hnb
        have HVO := Lib.hid vo
        have HVR := Lib.hid vr
        have HVA1 := Lib.hid va
        have HVB1 := Lib.hid vb
        have HBW := Lib.hid hbw
        clear va vb vr vo hbw hws hna hnb hs1 hs2 hs3 hs4 hs5 hs6
        by_cases x0 : xp = 0
        · have e1 : p1 = yp := by rw [Ep1.out, if_pos x0]
          have e2 : ps1 = b.pairs := by rw [Eps1.out, if_pos x0]
          have X1 := Lib.hid e1
          have X2 := Lib.hid e2
          clear e1 e2
          subst x0
          go_wp2
          go_meet
          case rel => exact ⟨_, Lib.hid (by rw [X1.out, X2.out]; exact HJ3.out _ _ _ _ _ _ _ _ _ _ (HJ2.out _ _ _ _ _ _ _ _ yp HJR2.out) (TySN.set HS3.out ⟨go, 2, none⟩ HM3.out _))⟩
        · have e1 : p1 = xp := by rw [Ep1.out, if_neg x0]
          have e2 : ps1 = a.pairs := by rw [Eps1.out, if_neg x0]
          have X1 := Lib.hid e1
          have X2 := Lib.hid e2
          have d0 : (xp == 0) = false := beq_false_of_ne x0
          clear e1 e2 x0
          go_wp2
          go_meet
          case rel => exact ⟨_, Lib.hid (by rw [X1.out, X2.out]; exact HJR2.out)⟩
      case rest =>
        obtain ⟨pv1, HJR3⟩ := hcut
        clear HJR2
        go_upto_region 14 with fail
        obtain ⟨both, hboth⟩ : ∃ z, z = decide (xp ≠ 0 ∧ yp ≠ 0) := ⟨_, rfl⟩
        have HBOTH := Lib.hid hboth
        clear hboth
        obtain ⟨W6, hW6⟩ : ∃ W6, W6 = wc := ⟨_, rfl⟩
        rw [← hW6] at HJR3 ⊢
        clear hW6
        go_cut [68] from 61 to 68 (fun v w' => v = .bool both ∧ W6 = w')
        case first =>
          have hjr := HJR3.out
          rw [HJR.out] at hjr
          obtain ⟨va, vb, vr, vo, hbw, hws, hna, hnb, ⟨hs1, hs2, hs3, hs4⟩, hs5, hs6⟩ := hjr
          have qa2 := va.c2
          have tla := va.lt
          have qb2 := vb.c2
          have tlb := vb.lt
          have HS1 := Lib.hid hs1
          have HS2 := Lib.hid hs2
          have HS3 := Lib.hid hs3
          have HS4 := Lib.hid hs4
          have HS5 := Lib.hid hs5
          have HS6 := Lib.hid hs6
          have HNA := Lib.hid hna
          have HNB := Lib.hid hnb
          have HVO := Lib.hid vo
          have HVR := Lib.hid vr
          have HVA1 := Lib.hid va
          have HVB1 := Lib.hid vb
          have HBW := Lib.hid hbw
          clear va vb vr vo hbw hws hna hnb hs1 hs2 hs3 hs4 hs5 hs6
          by_cases x0 : xp = 0
          · subst x0
            have hbo : both = false := by rw [HBOTH.out]; simp
            have HBO := Lib.hid hbo
            clear hbo
            go_wp2
            go_meet
            case rel => exact ⟨by rw [HBO.out], rfl⟩
          · have d1 : (xp != 0) = true := bne_iff_ne.2 x0
            by_cases y0 : yp = 0
            · subst y0
              have hbo : both = false := by rw [HBOTH.out]; simp
              have HBO := Lib.hid hbo
              clear x0 hbo
              go_wp2
              go_meet
              case rel => exact ⟨by rw [HBO.out], rfl⟩
            · have d2 : (yp != 0) = true := bne_iff_ne.2 y0
              have hbo : both = true := by rw [HBOTH.out]; exact decide_eq_true ⟨x0, y0⟩
              have HBO := Lib.hid hbo
              clear x0 y0 hbo
              go_wp2
              go_meet
              case rel => exact ⟨by rw [HBO.out], rfl⟩
        case rest =>
          obtain ⟨rfl, rfl⟩ := hcut
          go_upto_if 68 with fail
          go_cut [] from 68 to 110 (fun w' => ∃ pv, Hid (JR w' s P pv PS 0 (.slice none 0 0) []))
          case first =>
            cases both with
            | true =>
              have h0 : xp ≠ 0 ∧ yp ≠ 0 := of_decide_eq_true HBOTH.out.symm
              have hCA := HCA.out (by trivial) h0.1
              have HCA2 := Lib.hid hCA
              clear hCA
              have hCB := HCB.out (by trivial) h0.2
              have HCB2 := Lib.hid hCB
              clear hCB
              have hDA := HDA.out (by trivial) h0.1
              have HDA2 := Lib.hid hDA
              clear hDA
              have hDB := HDB.out (by trivial) h0.2
              have HDB2 := Lib.hid hDB
              clear hDB
              have hp1 : p1 = xp := by rw [Ep1.out, if_neg h0.1]
              have hP : P = if xp = 1 ∨ yp = 1 then 1 else xp := by rw [EP.out, if_neg h0.1, if_neg h0.2]
              have hPS : PS = if xp = 1 ∨ yp = 1 then [joinF n (carT a) (carT b), joinF n (cdrT a) (cdrT b)] else [joinF n (carT a) (carT b)] := by rw [EPS.out, if_neg h0.1, if_neg h0.2]
              have HP1 := Lib.hid hp1
              have HPP := Lib.hid hP
              have HPS := Lib.hid hPS
              clear hp1 hP hPS h0
              have HML6 := Lib.hid (show ∀ x, M x → x < W6.heap.size by
                have hjr := HJR3.out
                rw [HJR.out] at hjr
                exact fun x h => Nat.lt_of_lt_of_le (HML.out x h) hjr.2.2.2.2.2.1)
              have hjr := HJR3.out
              rw [HJR.out] at hjr
              obtain ⟨va, vb, vr, vo, hbw, hws, hna, hnb, ⟨hs1, hs2, hs3, hs4⟩, hs5, hs6⟩ := hjr
              have qa0 := va.c0
              have qa1 := va.c1
              have qa2 := va.c2
              have qa3 := va.c3
              have qa4 := va.c4
              have qa5 := va.c5
              have tla := va.lt
              have qb0 := vb.c0
              have qb1 := vb.c1
              have qb2 := vb.c2
              have qb3 := vb.c3
              have qb4 := vb.c4
              have qb5 := vb.c5
              have tlb := vb.lt
              have HS1 := Lib.hid hs1
              have HS2 := Lib.hid hs2
              have HS3 := Lib.hid hs3
              have HS4 := Lib.hid hs4
              have HS5 := Lib.hid hs5
              have HS6 := Lib.hid hs6
              have HNA := Lib.hid hna
              have HNB := Lib.hid hnb
              have HVO := Lib.hid vo
              have HVR := Lib.hid vr
              have HVA1 := Lib.hid va
              have HVB1 := Lib.hid vb
              have HBW := Lib.hid hbw
              clear va vb vr vo hbw hws hna hnb hs1 hs2 hs3 hs4 hs5 hs6
              clear HS1 HS2 HS3 HS4 HS5 HS6 HVO HVR HBW
              go_wp2_with fail
              refine (car_any M a _ W6 HML6.out HNA.out).mono ?_
              rintro e w31 ⟨⟨v, rfl, hv⟩, hb⟩
              obtain ⟨rax, rbx, rcx, rdx, rfl, _, _⟩ := hv.form
              clear qa0 qa1 qa2 qa3 qa4 qa5 qb0 qb1 qb2 qb3 qb4 qb5 tla tlb
              have qb0 := (HVB1.out.keep hb).c0
              have qb1 := (HVB1.out.keep hb).c1
              have qb2 := (HVB1.out.keep hb).c2
              have qb3 := (HVB1.out.keep hb).c3
              have qb4 := (HVB1.out.keep hb).c4
              have qb5 := (HVB1.out.keep hb).c5
              have tlb := (HVB1.out.keep hb).lt
              obtain ⟨W31, hW31⟩ : ∃ W, W = w31.alloc (.cells #[.bool (carT a).all, .int .i64 (carT a).flat, .int .i64 (carT a).pair, .slice rax (carT a).pairs.length rbx, .int .i64 (carT a).fn, .slice rcx (carT a).funs.length rdx] 24) := ⟨_, rfl⟩
              obtain ⟨gx, hgx⟩ : ∃ g, g = w31.heap.size := ⟨_, rfl⟩
              have HBW31 := Lib.hid (show Below W6.heap.size W6 W31 by rw [hW31]; exact hb.alloc hb.size _)
              have HVx := Lib.hid (show BoxAt W31 gx _ _ _ _ _ _ by rw [hW31, hgx]; exact BoxAt.made w31 (carT a).all (carT a).flat (carT a).pair (.slice rax (carT a).pairs.length rbx) (carT a).fn (.slice rcx (carT a).funs.length rdx))
              have HNx := Lib.hid (show TyVN M W31 _ (carT a) by rw [hW31]; exact hv.below ((Below.refl _ _).alloc (Nat.le_refl _) _))
              have HW31 := Lib.hid hW31
              have HGx := Lib.hid hgx
              have HJW31 := Lib.hid (HJB.out _ _ _ _ _ _ _ _ _ HJR3.out HBW31.out)
              clear hv hb hW31 hgx
              have HML1 := Lib.hid (show ∀ x, M x → x < W31.heap.size by
                have hjr := HJW31.out
                rw [HJR.out] at hjr
                exact fun x h => Nat.lt_of_lt_of_le (HML.out x h) hjr.2.2.2.2.2.1)
              have HNB1 := Lib.hid (HNB.out.below HBW31.out)
              go_wp2_with fail
              rw [← HGx.out, ← HW31.out]
              refine (car_any M b _ W31 HML1.out HNB1.out).mono ?_
              rintro e w32 ⟨⟨v, rfl, hv⟩, hb⟩
              obtain ⟨ray, rby, rcy, rdy, rfl, _, _⟩ := hv.form
              clear qb0 qb1 qb2 qb3 qb4 qb5 tlb
              have qx0 := (HVx.out.keep hb).c0
              have qx1 := (HVx.out.keep hb).c1
              have qx2 := (HVx.out.keep hb).c2
              have qx3 := (HVx.out.keep hb).c3
              have qx4 := (HVx.out.keep hb).c4
              have qx5 := (HVx.out.keep hb).c5
              have tlx := (HVx.out.keep hb).lt
              obtain ⟨W32, hW32⟩ : ∃ W, W = w32.alloc (.cells #[.bool (carT b).all, .int .i64 (carT b).flat, .int .i64 (carT b).pair, .slice ray (carT b).pairs.length rby, .int .i64 (carT b).fn, .slice rcy (carT b).funs.length rdy] 24) := ⟨_, rfl⟩
              obtain ⟨gy, hgy⟩ : ∃ g, g = w32.heap.size := ⟨_, rfl⟩
              have HBW32 := Lib.hid (show Below W31.heap.size W31 W32 by rw [hW32]; exact hb.alloc hb.size _)
              have HVy := Lib.hid (show BoxAt W32 gy _ _ _ _ _ _ by rw [hW32, hgy]; exact BoxAt.made w32 (carT b).all (carT b).flat (carT b).pair (.slice ray (carT b).pairs.length rby) (carT b).fn (.slice rcy (carT b).funs.length rdy))
              have HNy := Lib.hid (show TyVN M W32 _ (carT b) by rw [hW32]; exact hv.below ((Below.refl _ _).alloc (Nat.le_refl _) _))
              have HW32 := Lib.hid hW32
              have HGy := Lib.hid hgy
              have HJW32 := Lib.hid (HJB.out _ _ _ _ _ _ _ _ _ HJW31.out HBW32.out)
              clear hv hb hW32 hgy
              have HML2 := Lib.hid (show ∀ x, M x → x < W32.heap.size by
                have hjr := HJW32.out
                rw [HJR.out] at hjr
                exact fun x h => Nat.lt_of_lt_of_le (HML.out x h) hjr.2.2.2.2.2.1)
              obtain ⟨j1, hj1⟩ : ∃ j, j = joinF n (carT a) (carT b) := ⟨_, rfl⟩
              have hcc := HI.out M (carT a) (carT b) _ _ W32 HML2.out (by have := HSZ.out; have := HCA2.out.1; have := HCB2.out.1; omega) HCA2.out.2 HCB2.out.2 (HNx.out.below HBW32.out) HNy.out
              rw [← hj1] at hcc
              have HCC := Lib.hid hcc
              have HJ1 := Lib.hid hj1
              clear hcc hj1
              go_wp2_with fail
              rw [← HGy.out, ← HW32.out]
              refine HCC.out.mono ?_
              rintro e w4 ⟨⟨v, rfl, hv⟩, hb4⟩
              obtain ⟨ja, jb, jc, jd, rfl, hs1, hs2⟩ := hv.form
              clear qx0 qx1 qx2 qx3 qx4 qx5 tlx
              have HR1 := Lib.hid (show RawOf w4 (Lo M w4) ⟨j1.all, j1.flat, j1.pair, .slice ja j1.pairs.length jb, j1.fn, .slice jc j1.funs.length jd⟩ j1 from ⟨rfl, rfl, rfl, rfl, hs1, hs2⟩)
              have HJw4 := Lib.hid (HJB.out _ _ _ _ _ _ _ _ _ HJW32.out hb4)
              clear hv hb4 hs1 hs2 HCC HVx HVy HNx HNy HNA HNB HNB1 HVA1 HVB1 HBW31 HBW32 HJW31 HJW32 HML1 HML2 HGx HGy HW31 HW32
              have HML4 := Lib.hid (show ∀ x, M x → x < w4.heap.size by
                have hjr := HJw4.out
                rw [HJR.out] at hjr
                exact fun x h => Nat.lt_of_lt_of_le (HML.out x h) hjr.2.2.2.2.2.1)
              have hjr := HJw4.out
              rw [HJR.out] at hjr
              obtain ⟨va, vb, vr, vo, hbw, hws, hna, hnb, ⟨hs1, hs2, hs3, hs4⟩, hs5, hs6⟩ := hjr
              have qa0 := va.c0
              have qa1 := va.c1
              have qa2 := va.c2
              have qa3 := va.c3
              have qa4 := va.c4
              have qa5 := va.c5
              have tla := va.lt
              have qb0 := vb.c0
              have qb1 := vb.c1
              have qb2 := vb.c2
              have qb3 := vb.c3
              have qb4 := vb.c4
              have qb5 := vb.c5
              have tlb := vb.lt
              have qo0 := vo.c0
              have qo1 := vo.c1
              have qo2 := vo.c2
              have qo3 := vo.c3
              have qo4 := vo.c4
              have qo5 := vo.c5
              have tlo := vo.lt
              have zo0 := vo.fr 0
              have zo1 := vo.fr 1
              have zo2 := vo.fr 2
              have zo3 := vo.fr 3
              have zo4 := vo.fr 4
              have zo5 := vo.fr 5
              have HS1 := Lib.hid hs1
              have HS2 := Lib.hid hs2
              have HS3 := Lib.hid hs3
              have HS4 := Lib.hid hs4
              have HS5 := Lib.hid hs5
              have HS6 := Lib.hid hs6
              have HNA := Lib.hid hna
              have HNB := Lib.hid hnb
              have HVO := Lib.hid vo
              have HVR := Lib.hid vr
              have HVA1 := Lib.hid va
              have HVB1 := Lib.hid vb
              have HBW := Lib.hid hbw
              clear va vb vr vo hbw hws hna hnb hs1 hs2 hs3 hs4 hs5 hs6
              clear HS1 HS2 HS3 HS4 HS5 HS6 HVR HVA1 HVB1 HBW
              have HA4 := Lib.hid (show Below w4.heap.size w4 (w4.alloc (.cells #[.bool j1.all, .int .i64 j1.flat, .int .i64 j1.pair, .slice ja j1.pairs.length jb, .int .i64 j1.fn, .slice jc j1.funs.length jd] 24)) from (Below.refl _ _).alloc (Nat.le_refl _) _)
              have HO1 := Lib.hid (TyS.one HML4.out HR1.out)
              have HJ41 := Lib.hid (HJB.out _ _ _ _ _ _ _ _ _ HJw4.out HA4.out)
              have hj42 := HJ3.out _ _ _ _ _ _ _ _ (.slice (some ⟨w4.heap.size, 0, none⟩) 1 1) [j1] HJ41.out HO1.out
              rw [World.setCell_alloc_past (hn := tlo)] at hj42
              have HJ42 := Lib.hid hj42
              clear hj42
              by_cases one : xp = 1 ∨ yp = 1
              · have HLR4 := Lib.hid (show gr < w4.heap.size by have h := HJw4.out; rw [HJR.out] at h; exact h.2.2.1.lt)
                by_cases c1 : xp = 1
                · skip
                  have e1 : P = 1 := by rw [HPP.out, if_pos one]
                  obtain ⟨j2, hj2⟩ : ∃ j, j = joinF n (cdrT a) (cdrT b) := ⟨_, rfl⟩
                  have e2 : PS = [j1] ++ [j2] := by rw [HPS.out, if_pos one, HJ1.out, hj2]; rfl
                  have hsum : szT (cdrT a) + szT (cdrT b) ≤ n := by
                    have h1 := HDA2.out
                    have h2 := HDB2.out
                    have h3 := HSZ.out
                    rcases one with h | h
                    · have := h1.2.1 h; omega
                    · have := h2.2.1 h; omega
                  have X1 := Lib.hid e1
                  have X2 := Lib.hid e2
                  have HJ2E := Lib.hid hj2
                  have HSUM := Lib.hid hsum
                  clear e1 e2 one hj2 hsum
                  obtain ⟨X4, hX4⟩ : ∃ X, X = w4.setCell ⟨go, 3, none⟩ (.slice (some ⟨w4.heap.size, 0, none⟩) 1 1) := ⟨_, rfl⟩
                  have hXs : X4.heap.size = w4.heap.size := by rw [hX4]; simp [World.setCell]
                  obtain ⟨G4, hG4⟩ : ∃ G, G = w4.heap.size := ⟨_, rfl⟩
                  obtain ⟨M4, hM4⟩ : ∃ M4 : Nat → Prop, M4 = fun x => M x ∨ x = G4 := ⟨_, rfl⟩
                  have HM4M := Lib.hid (show ∀ x, M x → M4 x by rw [hM4]; exact fun x h => .inl h)
                  have HM4G := Lib.hid (show M4 G4 by rw [hM4]; exact .inr rfl)
                  obtain ⟨W5, hW5⟩ : ∃ W, W = X4.alloc (.cells #[.bool j1.all, .int .i64 j1.flat, .int .i64 j1.pair, .slice ja j1.pairs.length jb, .int .i64 j1.fn, .slice jc j1.funs.length jd] 24) := ⟨_, rfl⟩
                  have hal : Below X4.heap.size X4 W5 := by rw [hW5]; exact (Below.refl _ _).alloc (Nat.le_refl _) _
                  have hlat : ∀ x, M4 x → M x ∨ X4.heap.size ≤ x := by rw [hM4]; rintro x (h | h); exact .inl h; exact .inr (by omega)
                  have HJ5W := Lib.hid (show JR W5 s p1 (.slice (some ⟨G4, 0, none⟩) 1 1) [j1] 0 (.slice none 0 0) [] by rw [hW5, hX4, hG4]; exact HJ42.out)
                  have HA5 := Lib.hid (show TyVN M4 W5 (.agg #[.bool false, .int .i64 F, .int .i64 xp, .slice pa np pc, .int .i64 xn, .slice fa nf fc]) a by refine TyVN.later (N := M) ?_ hal hlat; rw [hX4]; exact HNA.out.set ⟨go, 3, none⟩ HM3.out _)
                  have HB5 := Lib.hid (show TyVN M4 W5 (.agg #[.bool false, .int .i64 G, .int .i64 yp, .slice qa mp qc, .int .i64 yn, .slice ga mf gc]) b by refine TyVN.later (N := M) ?_ hal hlat; rw [hX4]; exact HNB.out.set ⟨go, 3, none⟩ HM3.out _)
                  have ht : TyS w4 (Lo M w4) (.slice pa np pc) a.pairs ∧ TyS w4 (Lo M w4) (.slice fa nf fc) a.funs ∧ TyS w4 (Lo M w4) (.slice qa mp qc) b.pairs ∧ TyS w4 (Lo M w4) (.slice ga mf gc) b.funs := by
                    have h := HJw4.out
                    rw [HJR.out] at h
                    exact h.2.2.2.2.2.2.2.2.1
                  have HT1 := Lib.hid (show TyS W5 (Lo M4 W5) (.slice pa np pc) a.pairs by refine TySN.later (N := M) ?_ hal hlat; rw [hX4]; exact TySN.set ht.1 ⟨go, 3, none⟩ HM3.out _)
                  have HT2 := Lib.hid (show TyS W5 (Lo M4 W5) (.slice fa nf fc) a.funs by refine TySN.later (N := M) ?_ hal hlat; rw [hX4]; exact TySN.set ht.2.1 ⟨go, 3, none⟩ HM3.out _)
                  have HT3 := Lib.hid (show TyS W5 (Lo M4 W5) (.slice qa mp qc) b.pairs by refine TySN.later (N := M) ?_ hal hlat; rw [hX4]; exact TySN.set ht.2.2.1 ⟨go, 3, none⟩ HM3.out _)
                  have HT4 := Lib.hid (show TyS W5 (Lo M4 W5) (.slice ga mf gc) b.funs by refine TySN.later (N := M) ?_ hal hlat; rw [hX4]; exact TySN.set ht.2.2.2 ⟨go, 3, none⟩ HM3.out _)
                  have h1 : RawOf X4 (Lo M X4) ⟨j1.all, j1.flat, j1.pair, .slice ja j1.pairs.length jb, j1.fn, .slice jc j1.funs.length jd⟩ j1 := by
                    rw [hX4]
                    exact HR1.out.mono (fun _ hb => (Lo.set (⟨go, 3, none⟩, _) rfl HM3.out hb).1) fun _ o hb => (Lo.set (⟨go, 3, none⟩, _) rfl HM3.out hb).2 o
                  have h2 := RowT.one (B := G4) h1 (by omega)
                  rw [hXs, ← hG4] at h2
                  have HROW := Lib.hid (show RowT M G4 W5 (.slice (some ⟨G4, 0, none⟩) 1 1) [j1] by rw [hW5]; exact h2)
                  clear h1 h2
                  have hml5 : ∀ x, M4 x → x < W5.heap.size := by
                    have h1 := hal.size
                    have h2 : W5.heap.size = G4 + 1 := by rw [hW5, alloc_hs, hXs, hG4]
                    rw [hM4]
                    rintro x (h | h)
                    · have := HML4.out x h; omega
                    · omega
                  have HML5 := Lib.hid hml5
                  have HGL := Lib.hid (show g < G4 ∧ g + 1 < G4 ∧ gr < G4 ∧ go < G4 by rw [hG4]; exact ⟨tla, tlb, HLR4.out, tlo⟩)
                  rw [hX4] at hW5
                  have HW5 := Lib.hid hW5
                  have HG4 := Lib.hid hG4
                  have HM4 := Lib.hid hM4
                  clear hX4 hXs hal hlat ht hml5 hW5 hG4 hM4 HA4 HO1 HJ41 HJ42
                  have d1 : (xp == 1) = true := beq_iff_eq.2 c1
                  clear c1
                  have va5 : BoxAt W5 g false F xp (.slice pa np pc) xn (.slice fa nf fc) := by
                    have h := HJ5W.out
                    rw [HJR.out] at h
                    exact h.1
                  have vb5 : BoxAt W5 (g + 1) false G yp (.slice qa mp qc) yn (.slice ga mf gc) := by
                    have h := HJ5W.out
                    rw [HJR.out] at h
                    exact h.2.1
                  have p0 := va5.c0
                  have p1' := va5.c1
                  have p2 := va5.c2
                  have p3 := va5.c3
                  have p4 := va5.c4
                  have p5 := va5.c5
                  have r2 := vb5.c2
                  rw [HW5.out] at p0 p1' p2 p3 p4 p5 r2
                  clear va5 vb5 qa0 qa1 qa2 qa3 qa4 qa5 qb0 qb1 qb2 qb3 qb4 qb5 tla tlb
                  go_wp2_with fail
                  rw [← HW5.out]
                  try rw [← HG4.out]
                  clear p0 p1' p2 p3 p4 p5 r2 qo0 qo1 qo2 qo3 qo4 qo5 tlo zo0 zo1 zo2 zo3 zo4 zo5
                  refine (cdr_any M4 a _ W5 HML5.out HA5.out).mono ?_
                  rintro e w6 ⟨⟨v, rfl, hv⟩, hb⟩
                  obtain ⟨ua, uf, up, upa, unp, upc, uk, ufa, unf, ufc, rfl⟩ := hv.shape
                  obtain ⟨W6x, hW6⟩ : ∃ W, W = w6.alloc (.cells #[.bool ua, .int .i64 uf, .int .i64 up, .slice upa unp upc, .int .i64 uk, .slice ufa unf ufc] 24) := ⟨_, rfl⟩
                  obtain ⟨gu, hgu⟩ : ∃ z, z = w6.heap.size := ⟨_, rfl⟩
                  have hb6 : Below w6.heap.size w6 W6x := by rw [hW6]; exact (Below.refl _ _).alloc (Nat.le_refl _) _
                  have hbb : Below W5.heap.size W5 W6x := hb.trans (hb6.mono hb.size)
                  have HVu := Lib.hid (show BoxAt W6x gu ua uf up (.slice upa unp upc) uk (.slice ufa unf ufc) by rw [hW6, hgu]; exact BoxAt.made _ _ _ _ _ _ _)
                  have HNu := Lib.hid (hv.below hb6)
                  have HJ6 := Lib.hid (HJB.out _ _ _ _ _ _ _ _ _ HJ5W.out hbb)
                  have HA6 := Lib.hid (HA5.out.below hbb)
                  have HB6 := Lib.hid (HB5.out.below hbb)
                  have HU1 := Lib.hid (TySN.below HT1.out hbb)
                  have HU2 := Lib.hid (TySN.below HT2.out hbb)
                  have HU3 := Lib.hid (TySN.below HT3.out hbb)
                  have HU4 := Lib.hid (TySN.below HT4.out hbb)
                  have HROW6 := Lib.hid (HROW.out.below hbb)
                  have HML6x := Lib.hid (show ∀ x, M4 x → x < W6x.heap.size from fun x h => Nat.lt_of_lt_of_le (HML5.out x h) hbb.size)
                  have HGU := Lib.hid (show G4 < gu by rw [hgu]; exact Nat.lt_of_lt_of_le (HML5.out _ HM4G.out) hb.size)
                  have vb : BoxAt W6x (g + 1) false G yp (.slice qa mp qc) yn (.slice ga mf gc) := by
                    have h := HJ6.out
                    rw [HJR.out] at h
                    exact h.2.1
                  have qb0 := vb.c0
                  have qb1 := vb.c1
                  have qb2 := vb.c2
                  have qb3 := vb.c3
                  have qb4 := vb.c4
                  have qb5 := vb.c5
                  rw [hW6] at qb0 qb1 qb2 qb3 qb4 qb5
                  have HW6 := Lib.hid hW6
                  have HGUE := Lib.hid hgu
                  clear hv hb hb6 hbb hW6 hgu vb HJ5W HA5 HB5 HT1 HT2 HT3 HT4 HROW HML5
                  go_wp2_with fail
                  rw [← HGUE.out, ← HW6.out]
                  clear qb0 qb1 qb2 qb3 qb4 qb5
                  refine (cdr_any M4 b _ W6x HML6x.out HB6.out).mono ?_
                  rintro e w7 ⟨⟨v, rfl, hv⟩, hb⟩
                  obtain ⟨va, vf, vp, vpa, vnp, vpc, vk, vfa, vnf, vfc, rfl⟩ := hv.shape
                  obtain ⟨X7, hX7⟩ : ∃ X, X = w7.setCell ⟨go, 2, none⟩ (.int .i64 1) := ⟨_, rfl⟩
                  have hXs : X7.heap.size = w7.heap.size := by rw [hX7]; simp [World.setCell]
                  obtain ⟨W7, hW7⟩ : ∃ W, W = X7.alloc (.cells #[.bool va, .int .i64 vf, .int .i64 vp, .slice vpa vnp vpc, .int .i64 vk, .slice vfa vnf vfc] 24) := ⟨_, rfl⟩
                  obtain ⟨gv, hgv⟩ : ∃ z, z = w7.heap.size := ⟨_, rfl⟩
                  have hst : Stay (· = go) w7 X7 := by rw [hX7]; exact Stay.set (N := (· = go)) .refl rfl _
                  have hal : Below X7.heap.size X7 W7 := by rw [hW7]; exact (Below.refl _ _).alloc (Nat.le_refl _) _
                  have hM4o : M4 go := HM4M.out _ HM3.out
                  have hmon : ∀ x, x = go → M4 x := fun x h => by rw [h]; exact hM4o
                  have HVu7 := Lib.hid (show BoxAt W7 gu ua uf up (.slice upa unp upc) uk (.slice ufa unf ufc) from (((HVu.out.keep hb).stay hst (by have := HGU.out; have := HGL.out; omega)).keep hal))
                  have HVv7 := Lib.hid (show BoxAt W7 gv va vf vp (.slice vpa vnp vpc) vk (.slice vfa vnf vfc) by rw [hW7, hgv, ← hXs]; exact BoxAt.made _ _ _ _ _ _ _)
                  have HNu7 := Lib.hid (((HNu.out.below hb).stay (hst.mono hmon)).below hal)
                  have HNv7 := Lib.hid ((hv.stay (hst.mono hmon)).below hal)
                  have HA7 := Lib.hid (((HA6.out.below hb).stay (hst.mono hmon)).below hal)
                  have HB7 := Lib.hid (((HB6.out.below hb).stay (hst.mono hmon)).below hal)
                  have HU17 := Lib.hid (TySN.below (TySN.stay (TySN.below HU1.out hb) (hst.mono hmon)) hal)
                  have HU27 := Lib.hid (TySN.below (TySN.stay (TySN.below HU2.out hb) (hst.mono hmon)) hal)
                  have HU37 := Lib.hid (TySN.below (TySN.stay (TySN.below HU3.out hb) (hst.mono hmon)) hal)
                  have HU47 := Lib.hid (TySN.below (TySN.stay (TySN.below HU4.out hb) (hst.mono hmon)) hal)
                  have HROW7 := Lib.hid (((HROW6.out.below hb).stay hst (fun x h => by rw [h]; exact HM3.out) (fun x h => by rw [h]; exact HGL.out.2.2.2)).below hal)
                  have HJ7w := Lib.hid (HJB.out _ _ _ _ _ _ _ _ _ HJ6.out hb)
                  have HJ7 := Lib.hid (show JR W7 s 1 (.slice (some ⟨G4, 0, none⟩) 1 1) [j1] 0 (.slice none 0 0) [] from HJB.out _ _ _ _ _ _ _ _ _ (by rw [hX7]; exact HJ2.out _ _ _ _ _ _ _ _ 1 HJ7w.out) hal)
                  have HML7 := Lib.hid (show ∀ x, M4 x → x < W7.heap.size from fun x h => by have := HML6x.out x h; have := hb.size; have := hal.size; omega)
                  have vo : BoxAt w7 go false s p1 (.slice (some ⟨G4, 0, none⟩) 1 1) 0 (.slice none 0 0) := by
                    have h := HJ7w.out
                    rw [HJR.out] at h
                    exact h.2.2.2.1
                  have qo2 := vo.c2
                  have zo2 := vo.fr 2
                  have tlo := vo.lt
                  rw [hX7] at hW7
                  have HW7 := Lib.hid hW7
                  have HGV := Lib.hid hgv
                  have HGV2 := Lib.hid (show G4 < gv by have h1 := HML6x.out _ HM4G.out; have h2 := hb.size; omega)
                  have HGUV := Lib.hid (show gu ≠ go ∧ gv ≠ go by have h1 := HGU.out; have h2 := HGL.out; have h3 := HGV2.out; omega)
                  clear vo hv hb hX7 hXs hst hal hmon hM4o hW7 hgv HJ6 HA6 HB6 HU1 HU2 HU3 HU4 HROW6 HML6x HVu HNu HJ7w
                  go_upto_region 22 with fail
                  rw [← HGV.out, ← HW7.out]
                  clear qo2 zo2 tlo
                  have vo : BoxAt W7 go false s 1 (.slice (some ⟨G4, 0, none⟩) 1 1) 0 (.slice none 0 0) := by
                    have h := HJ7.out
                    rw [HJR.out] at h
                    exact h.2.2.2.1
                  have qo3 := vo.c3
                  have u0 := HVu7.out.c0
                  have u1 := HVu7.out.c1
                  have u2 := HVu7.out.c2
                  have u3 := HVu7.out.c3
                  have u4 := HVu7.out.c4
                  have u5 := HVu7.out.c5
                  have v0 := HVv7.out.c0
                  have v1 := HVv7.out.c1
                  have v2 := HVv7.out.c2
                  have v3 := HVv7.out.c3
                  have v4 := HVv7.out.c4
                  have v5 := HVv7.out.c5
                  have hbd : Below W7.heap.size W7 W7.drew := (Below.refl _ _).drew
                  have hcc := HI.out M4 (cdrT a) (cdrT b) _ _ W7.drew (fun x h => HML7.out x h) HSUM.out HDA2.out.2.2 HDB2.out.2.2 (HNu7.out.below hbd) (HNv7.out.below hbd)
                  rw [← HJ2E.out] at hcc
                  have HCC := Lib.hid hcc
                  clear hcc
                  have HKU := Lib.hid (HVu7.out.keep hbd)
                  have HKV := Lib.hid (HVv7.out.keep hbd)
                  have HKO := Lib.hid (vo.keep hbd)
                  clear vo hbd
                  refine wp_region_noPanic ?_
                  refine wp_region_held_drew (S := (fun w' => w'.cell? ⟨gu, 0, none⟩ = some (.bool ua) ∧ w'.cell? ⟨gu, 1, none⟩ = some (.int .i64 uf) ∧ w'.cell? ⟨gu, 2, none⟩ = some (.int .i64 up) ∧ w'.cell? ⟨gu, 3, none⟩ = some (.slice upa unp upc) ∧ w'.cell? ⟨gu, 4, none⟩ = some (.int .i64 uk) ∧ w'.cell? ⟨gu, 5, none⟩ = some (.slice ufa unf ufc) ∧ w'.cell? ⟨gv, 0, none⟩ = some (.bool va) ∧ w'.cell? ⟨gv, 1, none⟩ = some (.int .i64 vf) ∧ w'.cell? ⟨gv, 2, none⟩ = some (.int .i64 vp) ∧ w'.cell? ⟨gv, 3, none⟩ = some (.slice vpa vnp vpc) ∧ w'.cell? ⟨gv, 4, none⟩ = some (.int .i64 vk) ∧ w'.cell? ⟨gv, 5, none⟩ = some (.slice vfa vnf vfc))) (by kernel_rfl) (by (try dsimp only); exact ⟨HKU.out.c0, HKU.out.c1, HKU.out.c2, HKU.out.c3, HKU.out.c4, HKU.out.c5, HKV.out.c0, HKV.out.c1, HKV.out.c2, HKV.out.c3, HKV.out.c4, HKV.out.c5⟩) (fun hHeld => ?_)
                  clear u0 u1 u2 u3 u4 u5 v0 v1 v2 v3 v4 v5
                  refine' take_any 0 103 (v := _) ?hi1 ?hd1 (by kernel_rfl) (by kernel_rfl) (by kernel_rfl) (fun _ _ _ h => h) ?hy1 hHeld ?hr1
                  case hi1 => (simp only [List.getElem?_toArray, List.getElem?_cons_zero]; rfl)
                  case hd1 => rfl
                  case hy1 =>
                    refine' Or.inl ⟨?hw1, ?hx1⟩
                    case hw1 => rfl
                    case hx1 => (intro w hSw; (try dsimp only at hSw); go_simp; (try with_reducible rfl))
                  (try simp only [Act.put, List.setIfInBounds_toArray, List.set_cons_zero, List.set_cons_succ])
                  refine' take_any 2 105 (v := _) ?hi2 ?hd2 (by kernel_rfl) (by kernel_rfl) (by kernel_rfl) (fun _ _ _ h => h) ?hy2 hHeld ?hr2
                  case hi2 => (simp only [List.getElem?_toArray, List.getElem?_cons_succ, List.getElem?_cons_zero]; rfl)
                  case hd2 => rfl
                  case hy2 =>
                    refine' Or.inl ⟨?hw2, ?hx2⟩
                    case hw2 => rfl
                    case hx2 => (intro w hSw; (try dsimp only at hSw); go_simp; (try with_reducible rfl))
                  (try simp only [Act.put, List.setIfInBounds_toArray, List.set_cons_zero, List.set_cons_succ])
                  refine' take_any 3 106 (v := _) ?hi3 ?hd3 (by kernel_rfl) (by kernel_rfl) (by kernel_rfl) (fun _ _ _ h => h) ?hy3 hHeld ?hr3
                  case hi3 => (simp only [List.getElem?_toArray, List.getElem?_cons_succ, List.getElem?_cons_zero]; rfl)
                  case hd3 => rfl
                  case hy3 =>
                    refine' Or.inl ⟨?hw3, ?hx3⟩
                    case hw3 => rfl
                    case hx3 => (intro w hSw; (try dsimp only at hSw); go_simp; (try with_reducible rfl))
                  (try simp only [Act.put, List.setIfInBounds_toArray, List.set_cons_zero, List.set_cons_succ])
                  refine' take_two 1 4 ?hi18 ?hj18 (by kernel_rfl) ?ha18 ?hb18
                  case hi18 => (simp only [List.getElem?_toArray, List.getElem?_cons_succ, List.getElem?_cons_zero]; rfl)
                  case hj18 => (simp only [List.getElem?_toArray, List.getElem?_cons_succ, List.getElem?_cons_zero]; rfl)
                  case ha18 =>
                    intro K hK
                    go_simp
                    go_wp2_with fail
                    clear hHeld
                    refine hK.out _ _ (by (try dsimp only); exact ⟨HKU.out.c0, HKU.out.c1, HKU.out.c2, HKU.out.c3, HKU.out.c4, HKU.out.c5, HKV.out.c0, HKV.out.c1, HKV.out.c2, HKV.out.c3, HKV.out.c4, HKV.out.c5⟩) (fun hHeld => ?_)
                    clear hK K
                    (try simp only [Act.put, List.setIfInBounds_toArray, List.set_cons_zero, List.set_cons_succ])
                    refine' take_call 4 ?hi4 (by kernel_rfl) ?hr4
                    case hi4 => (simp only [List.getElem?_toArray, List.getElem?_cons_succ, List.getElem?_cons_zero]; rfl)
                    intro K hK
                    go_simp
                    go_at_call 19
                    refine HCC.out.mono ?_
                    rintro e w8 ⟨⟨v, rfl, hv⟩, hb0⟩
                    obtain ⟨ca, cf, cp, cpa, cnp, cpc, ck, cfa, cnf, cfc, rfl⟩ := hv.shape
                    have hb : Below W7.heap.size W7 w8 := (Below.refl _ _).drew.trans hb0
                    replace HKU := Lib.hid (HKU.out.keep hb0)
                    replace HKV := Lib.hid (HKV.out.keep hb0)
                    replace HKO := Lib.hid (HKO.out.keep hb0)
                    have qo3 := HKO.out.c3
                    obtain ⟨i0, hi, hz0, hz1, hz2⟩ := info_parts Tryd.infoTy
                    have hdr := hv.raw
                    obtain ⟨rs, hown, hraw⟩ := HROW7.out.below hb
                    have HDR := Lib.hid hdr
                    have HRAW := Lib.hid hraw
                    have HOWN := Lib.hid (hown.alloc (.cells #[.bool ca, .int .i64 cf, .int .i64 cp, .slice cpa cnp cpc, .int .i64 ck, .slice cfa cnf cfc] 24))
                    have HB8 := Lib.hid hb
                    have HK8 := Lib.hid (show go < w8.heap.size by have := HGL.out; have := HML7.out _ HM4G.out; have := hb.size; omega)
                    clear hdr hown hraw hb hb0 hv HCC
                    go_wp2_with fail
                    clear hHeld
                    refine hK.out _ _ (by (try dsimp only); exact ⟨HKU.out.c0, HKU.out.c1, HKU.out.c2, HKU.out.c3, HKU.out.c4, HKU.out.c5, HKV.out.c0, HKV.out.c1, HKV.out.c2, HKV.out.c3, HKV.out.c4, HKV.out.c5⟩) (fun hHeld => ?_)
                    clear hK K
                    (try simp only [Act.put, List.setIfInBounds_toArray, List.set_cons_zero, List.set_cons_succ])
                    refine' take_call 5 ?hi5 (by kernel_rfl) ?hr5
                    case hi5 => (simp only [List.getElem?_toArray, List.getElem?_cons_succ, List.getElem?_cons_zero]; rfl)
                    intro K hK
                    go_simp
                    have hba : Below w8.heap.size w8 (w8.alloc (.cells #[.bool ca, .int .i64 cf, .int .i64 cp, .slice cpa cnp cpc, .int .i64 ck, .slice cfa cnf cfc] 24)) := (Below.refl _ _).alloc (Nat.le_refl _) _
                    replace HKU := Lib.hid (HKU.out.keep hba)
                    replace HKV := Lib.hid (HKV.out.keep hba)
                    replace HKO := Lib.hid (HKO.out.keep hba)
                    have qo3 := HKO.out.c3
                    clear hba
                    clear hHeld
                    refine hK.out _ _ (by (try dsimp only); exact ⟨HKU.out.c0, HKU.out.c1, HKU.out.c2, HKU.out.c3, HKU.out.c4, HKU.out.c5, HKV.out.c0, HKV.out.c1, HKV.out.c2, HKV.out.c3, HKV.out.c4, HKV.out.c5⟩) (fun hHeld => ?_)
                    clear hK K
                    (try simp only [Act.put, List.setIfInBounds_toArray, List.set_cons_zero, List.set_cons_succ])
                    refine' take_call 6 ?hi6 (by kernel_rfl) ?hr6
                    case hi6 => (simp only [List.getElem?_toArray, List.getElem?_cons_succ, List.getElem?_cons_zero]; rfl)
                    intro K hK
                    refine step_append_lies _ (by rfl) (.tmp 104) (.tmp 108) 22 (by rfl) G4 24 i0 (.agg #[.bool false, .int .i64 0, .int .i64 0, .slice none 0 0, .int .i64 0, .slice none 0 0]) 6 80 Tryd.underlying22 hi hz0 hz1 hz2 rfl (by decide) _ 1 (rawsCells rs) (by rfl) HOWN.out ⟨w8.heap.size, 0, none⟩ 1 1 (rawCells ⟨ca, cf, cp, .slice cpa cnp cpc, ck, .slice cfa cnf cfc⟩) (by rfl) rfl (World.news_of_block (heap_alloc_new w8 _)) ?k2 (by omega) ?k3 ?k4 ?k5 (w8.heap.size + 1) (alloc_hs _ _) ?_
                    case k2 => intro x hx; simp only [rawCells, List.mem_cons, List.not_mem_nil, or_false] at hx; rcases hx with rfl | rfl | rfl | rfl | rfl | rfl <;> rfl
                    case k3 => unfold maxLen; omega
                    case k4 => omega
                    case k5 => rw [alloc_hs]; have := HML7.out _ HM4G.out; have := HB8.out.size; omega
                    intro gg cap w9 hown9 hgrow9 hlies9 hlt9
                    have hrow9 : RowT M G4 w9 (.slice (some ⟨gg, 0, none⟩) (1 + 1) cap) ([j1] ++ [j2]) := by
                      have h2 : RawOf w8 (fun x => Lo M w8 x ∧ (Value.slice (some ⟨G4, 0, none⟩) 1 1).ownBlock ≠ some x) ⟨ca, cf, cp, .slice cpa cnp cpc, ck, .slice cfa cnf cfc⟩ j2 := HDR.out.mono (fun x h => ⟨⟨h.1, fun e => h.2 (HM4M.out x e)⟩, fun e => h.2 (by simp only [Value.ownBlock, Option.some.injEq] at e; rw [← e]; exact HM4G.out)⟩) fun _ _ _ => rfl
                      exact rowt_push (l := [j1]) HRAW.out h2 hgrow9 hlies9 hown9
                    have hG8 : G4 < w8.heap.size := by have := HML7.out _ HM4G.out; have := HB8.out.size; omega
                    have hb89 : Below G4 (w8.alloc (.cells #[.bool ca, .int .i64 cf, .int .i64 cp, .slice cpa cnp cpc, .int .i64 ck, .slice cfa cnf cfc] 24)) w9 := (Below.refl G4 _).grown hgrow9 (by rw [alloc_hs]; omega) (fun k hk => by simp only [Value.ownBlock, Option.some.injEq] at hk; omega)
                    have hst9 : Stay (· = G4) (w8.alloc (.cells #[.bool ca, .int .i64 cf, .int .i64 cp, .slice cpa cnp cpc, .int .i64 ck, .slice cfa cnf cfc] 24)) w9 := Stay.of_grown hgrow9 hb89 (fun k hk => by simp only [Value.ownBlock, Option.some.injEq] at hk; omega)
                    have hst : Stay (· = G4) W7 w9 := (Stay.of (HB8.out.trans ((Below.refl _ _).alloc HB8.out.size _))).trans hst9
                    have hm9 : ∀ x, x = G4 → M4 x := fun x h => by rw [h]; exact HM4G.out
                    have hq : BoxAt W7 g false F xp (.slice pa np pc) xn (.slice fa nf fc) ∧ BoxAt W7 (g + 1) false G yp (.slice qa mp qc) yn (.slice ga mf gc) ∧ BoxAt W7 gr false 0 0 (.slice none 0 0) 0 (.slice none 0 0) ∧ BoxAt W7 go false s 1 (.slice (some ⟨G4, 0, none⟩) 1 1) 0 (.slice none 0 0) ∧ Below w.heap.size w W7 ∧ W.heap.size ≤ W7.heap.size := by
                      have h := HJ7.out
                      rw [HJR.out] at h
                      exact ⟨h.1, h.2.1, h.2.2.1, h.2.2.2.1, h.2.2.2.2.1, h.2.2.2.2.2.1⟩
                    obtain ⟨va', vb', vr', vo', hbw, hws⟩ := hq
                    have hl := HGL.out
                    have va9 := va'.stay hst (by omega)
                    have vb9 := vb'.stay hst (by omega)
                    have vr9 := vr'.stay hst (by omega)
                    have vo9 := vo'.stay hst (by omega)
                    have hbw9 : Below w.heap.size w w9 := hbw.trans ((hst.below (B := G4) (by have := HML7.out _ HM4G.out; omega) (fun k hk => by omega)).mono (by have := HGE.out; omega))
                    have HFIN9 := Lib.hid (show JR (w9.setCell ⟨go, 3, none⟩ (.slice (some ⟨gg, 0, none⟩) (1 + 1) cap)) s 1 (.slice (some ⟨gg, 0, none⟩) (1 + 1) cap) ([j1] ++ [j2]) 0 (.slice none 0 0) [] by
                      have hd := hrow9.done (fun x h => HML4.out x h |> fun h => by rw [HG4.out]; exact h) (by unfold maxLen; simp)
                      have f : ∀ {v : Value} {t : Ty}, TyVN M4 W7 v t → TyVN M (w9.setCell ⟨go, 3, none⟩ (.slice (some ⟨gg, 0, none⟩) (1 + 1) cap)) v t := fun h => ((h.stay (hst.mono hm9)).mono fun x _ h => HM4M.out x h).set ⟨go, 3, none⟩ HM3.out _
                      have f2 : ∀ {v : Value} {l : List Ty}, TyS W7 (Lo M4 W7) v l → TyS (w9.setCell ⟨go, 3, none⟩ (.slice (some ⟨gg, 0, none⟩) (1 + 1) cap)) (Lo M (w9.setCell ⟨go, 3, none⟩ (.slice (some ⟨gg, 0, none⟩) (1 + 1) cap))) v l := fun h => TySN.set (TySN.mono (TySN.stay h (hst.mono hm9)) fun x _ h => HM4M.out x h) ⟨go, 3, none⟩ HM3.out _
                      rw [HJR.out]
                      exact ⟨va9.o NEa.out, vb9.o NEb.out, vr9.o NEr.out, vo9.s3, hbw9.setCell (p := ⟨go, 3, none⟩) HGE.out _, by have := hst.size; simp [World.setCell]; omega, f HA7.out, f HB7.out, ⟨f2 HU17.out, f2 HU27.out, f2 HU37.out, f2 HU47.out⟩, TySN.set hd ⟨go, 3, none⟩ HM3.out _, .mkNil _ _⟩)
                    replace HKU := Lib.hid (HKU.out.stay hst9 (by have := HGU.out; omega))
                    replace HKV := Lib.hid (HKV.out.stay hst9 (by have := HGV2.out; omega))
                    have qo3 := vo9.c3
                    have zo3 := vo9.fr 3
                    have tlo := vo9.lt
                    clear hrow9 hG8 hb89 hst9 hst hm9 va' vb' vr' vo' hbw hws hl va9 vb9 vr9 vo9 hbw9 hown9 hgrow9 hlies9 hlt9
                    clear hHeld
                    refine hK.out _ _ (by (try dsimp only); exact ⟨HKU.out.c0, HKU.out.c1, HKU.out.c2, HKU.out.c3, HKU.out.c4, HKU.out.c5, HKV.out.c0, HKV.out.c1, HKV.out.c2, HKV.out.c3, HKV.out.c4, HKV.out.c5⟩) (fun hHeld => ?_)
                    clear hK K
                    (try simp only [Act.put, List.setIfInBounds_toArray, List.set_cons_zero, List.set_cons_succ])
                    refine' take_any 7 110 (v := _) ?hi7 ?hd7 (by kernel_rfl) (by kernel_rfl) (by kernel_rfl) (fun _ _ _ h => h) ?hy7 hHeld ?hr7
                    case hi7 => (simp only [List.getElem?_toArray, List.getElem?_cons_succ, List.getElem?_cons_zero]; rfl)
                    case hd7 => rfl
                    case hy7 =>
                      refine' Or.inl ⟨?hw7, ?hx7⟩
                      case hw7 => rfl
                      case hx7 => (intro w hSw; (try dsimp only at hSw); go_simp; (try with_reducible rfl))
                    (try simp only [Act.put, List.setIfInBounds_toArray, List.set_cons_zero, List.set_cons_succ])
                    refine' take_call 8 ?hi8 (by kernel_rfl) ?hr8
                    case hi8 => (simp only [List.getElem?_toArray, List.getElem?_cons_succ, List.getElem?_cons_zero]; rfl)
                    intro K hK
                    go_simp
                    replace HKU := Lib.hid (HKU.out.o (m := go) (i := 3) (x := .slice (some ⟨gg, 0, none⟩) (1 + 1) cap) HGUV.out.1)
                    replace HKV := Lib.hid (HKV.out.o (m := go) (i := 3) (x := .slice (some ⟨gg, 0, none⟩) (1 + 1) cap) HGUV.out.2)
                    clear hHeld
                    refine hK.out _ _ (by (try dsimp only); exact ⟨HKU.out.c0, HKU.out.c1, HKU.out.c2, HKU.out.c3, HKU.out.c4, HKU.out.c5, HKV.out.c0, HKV.out.c1, HKV.out.c2, HKV.out.c3, HKV.out.c4, HKV.out.c5⟩) (fun hHeld => ?_)
                    clear hK K
                    (try simp only [Act.put, List.setIfInBounds_toArray, List.set_cons_zero, List.set_cons_succ])
                    refine wpAnyH_done (by kernel_rfl) ?_ _
                    refine NoPanic.normal ?_
                    clear qo3 zo3 tlo hHeld
                    go_wp2
                    go_meet
                    case rel => exact ⟨_, Lib.hid (by rw [X1.out, X2.out]; exact HFIN9.out)⟩
                  case hb18 =>
                    intro K hK
                    go_simp
                    go_at_call 19
                    refine HCC.out.mono ?_
                    rintro e w8 ⟨⟨v, rfl, hv⟩, hb0⟩
                    obtain ⟨ca, cf, cp, cpa, cnp, cpc, ck, cfa, cnf, cfc, rfl⟩ := hv.shape
                    have hb : Below W7.heap.size W7 w8 := (Below.refl _ _).drew.trans hb0
                    replace HKU := Lib.hid (HKU.out.keep hb0)
                    replace HKV := Lib.hid (HKV.out.keep hb0)
                    replace HKO := Lib.hid (HKO.out.keep hb0)
                    have qo3 := HKO.out.c3
                    obtain ⟨i0, hi, hz0, hz1, hz2⟩ := info_parts Tryd.infoTy
                    have hdr := hv.raw
                    obtain ⟨rs, hown, hraw⟩ := HROW7.out.below hb
                    have HDR := Lib.hid hdr
                    have HRAW := Lib.hid hraw
                    have HOWN := Lib.hid (hown.alloc (.cells #[.bool ca, .int .i64 cf, .int .i64 cp, .slice cpa cnp cpc, .int .i64 ck, .slice cfa cnf cfc] 24))
                    have HB8 := Lib.hid hb
                    have HK8 := Lib.hid (show go < w8.heap.size by have := HGL.out; have := HML7.out _ HM4G.out; have := hb.size; omega)
                    clear hdr hown hraw hb hb0 hv HCC
                    go_wp2_with fail
                    clear hHeld
                    refine hK.out _ _ (by (try dsimp only); exact ⟨HKU.out.c0, HKU.out.c1, HKU.out.c2, HKU.out.c3, HKU.out.c4, HKU.out.c5, HKV.out.c0, HKV.out.c1, HKV.out.c2, HKV.out.c3, HKV.out.c4, HKV.out.c5⟩) (fun hHeld => ?_)
                    clear hK K
                    (try simp only [Act.put, List.setIfInBounds_toArray, List.set_cons_zero, List.set_cons_succ])
                    refine' take_two 1 5 ?hi17 ?hj17 (by kernel_rfl) ?ha17 ?hb17
                    case hi17 => (simp only [List.getElem?_toArray, List.getElem?_cons_succ, List.getElem?_cons_zero]; rfl)
                    case hj17 => (simp only [List.getElem?_toArray, List.getElem?_cons_succ, List.getElem?_cons_zero]; rfl)
                    case ha17 =>
                      intro K hK
                      go_simp
                      go_wp2_with fail
                      clear hHeld
                      refine hK.out _ _ (by (try dsimp only); exact ⟨HKU.out.c0, HKU.out.c1, HKU.out.c2, HKU.out.c3, HKU.out.c4, HKU.out.c5, HKV.out.c0, HKV.out.c1, HKV.out.c2, HKV.out.c3, HKV.out.c4, HKV.out.c5⟩) (fun hHeld => ?_)
                      clear hK K
                      (try simp only [Act.put, List.setIfInBounds_toArray, List.set_cons_zero, List.set_cons_succ])
                      refine' take_call 5 ?hi9 (by kernel_rfl) ?hr9
                      case hi9 => (simp only [List.getElem?_toArray, List.getElem?_cons_succ, List.getElem?_cons_zero]; rfl)
                      intro K hK
                      go_simp
                      have hba : Below w8.heap.size w8 (w8.alloc (.cells #[.bool ca, .int .i64 cf, .int .i64 cp, .slice cpa cnp cpc, .int .i64 ck, .slice cfa cnf cfc] 24)) := (Below.refl _ _).alloc (Nat.le_refl _) _
                      replace HKU := Lib.hid (HKU.out.keep hba)
                      replace HKV := Lib.hid (HKV.out.keep hba)
                      replace HKO := Lib.hid (HKO.out.keep hba)
                      have qo3 := HKO.out.c3
                      clear hba
                      clear hHeld
                      refine hK.out _ _ (by (try dsimp only); exact ⟨HKU.out.c0, HKU.out.c1, HKU.out.c2, HKU.out.c3, HKU.out.c4, HKU.out.c5, HKV.out.c0, HKV.out.c1, HKV.out.c2, HKV.out.c3, HKV.out.c4, HKV.out.c5⟩) (fun hHeld => ?_)
                      clear hK K
                      (try simp only [Act.put, List.setIfInBounds_toArray, List.set_cons_zero, List.set_cons_succ])
                      refine' take_call 6 ?hi10 (by kernel_rfl) ?hr10
                      case hi10 => (simp only [List.getElem?_toArray, List.getElem?_cons_succ, List.getElem?_cons_zero]; rfl)
                      intro K hK
                      refine step_append_lies _ (by rfl) (.tmp 104) (.tmp 108) 22 (by rfl) G4 24 i0 (.agg #[.bool false, .int .i64 0, .int .i64 0, .slice none 0 0, .int .i64 0, .slice none 0 0]) 6 80 Tryd.underlying22 hi hz0 hz1 hz2 rfl (by decide) _ 1 (rawsCells rs) (by rfl) HOWN.out ⟨w8.heap.size, 0, none⟩ 1 1 (rawCells ⟨ca, cf, cp, .slice cpa cnp cpc, ck, .slice cfa cnf cfc⟩) (by rfl) rfl (World.news_of_block (heap_alloc_new w8 _)) ?k2 (by omega) ?k3 ?k4 ?k5 (w8.heap.size + 1) (alloc_hs _ _) ?_
                      case k2 => intro x hx; simp only [rawCells, List.mem_cons, List.not_mem_nil, or_false] at hx; rcases hx with rfl | rfl | rfl | rfl | rfl | rfl <;> rfl
                      case k3 => unfold maxLen; omega
                      case k4 => omega
                      case k5 => rw [alloc_hs]; have := HML7.out _ HM4G.out; have := HB8.out.size; omega
                      intro gg cap w9 hown9 hgrow9 hlies9 hlt9
                      have hrow9 : RowT M G4 w9 (.slice (some ⟨gg, 0, none⟩) (1 + 1) cap) ([j1] ++ [j2]) := by
                        have h2 : RawOf w8 (fun x => Lo M w8 x ∧ (Value.slice (some ⟨G4, 0, none⟩) 1 1).ownBlock ≠ some x) ⟨ca, cf, cp, .slice cpa cnp cpc, ck, .slice cfa cnf cfc⟩ j2 := HDR.out.mono (fun x h => ⟨⟨h.1, fun e => h.2 (HM4M.out x e)⟩, fun e => h.2 (by simp only [Value.ownBlock, Option.some.injEq] at e; rw [← e]; exact HM4G.out)⟩) fun _ _ _ => rfl
                        exact rowt_push (l := [j1]) HRAW.out h2 hgrow9 hlies9 hown9
                      have hG8 : G4 < w8.heap.size := by have := HML7.out _ HM4G.out; have := HB8.out.size; omega
                      have hb89 : Below G4 (w8.alloc (.cells #[.bool ca, .int .i64 cf, .int .i64 cp, .slice cpa cnp cpc, .int .i64 ck, .slice cfa cnf cfc] 24)) w9 := (Below.refl G4 _).grown hgrow9 (by rw [alloc_hs]; omega) (fun k hk => by simp only [Value.ownBlock, Option.some.injEq] at hk; omega)
                      have hst9 : Stay (· = G4) (w8.alloc (.cells #[.bool ca, .int .i64 cf, .int .i64 cp, .slice cpa cnp cpc, .int .i64 ck, .slice cfa cnf cfc] 24)) w9 := Stay.of_grown hgrow9 hb89 (fun k hk => by simp only [Value.ownBlock, Option.some.injEq] at hk; omega)
                      have hst : Stay (· = G4) W7 w9 := (Stay.of (HB8.out.trans ((Below.refl _ _).alloc HB8.out.size _))).trans hst9
                      have hm9 : ∀ x, x = G4 → M4 x := fun x h => by rw [h]; exact HM4G.out
                      have hq : BoxAt W7 g false F xp (.slice pa np pc) xn (.slice fa nf fc) ∧ BoxAt W7 (g + 1) false G yp (.slice qa mp qc) yn (.slice ga mf gc) ∧ BoxAt W7 gr false 0 0 (.slice none 0 0) 0 (.slice none 0 0) ∧ BoxAt W7 go false s 1 (.slice (some ⟨G4, 0, none⟩) 1 1) 0 (.slice none 0 0) ∧ Below w.heap.size w W7 ∧ W.heap.size ≤ W7.heap.size := by
                        have h := HJ7.out
                        rw [HJR.out] at h
                        exact ⟨h.1, h.2.1, h.2.2.1, h.2.2.2.1, h.2.2.2.2.1, h.2.2.2.2.2.1⟩
                      obtain ⟨va', vb', vr', vo', hbw, hws⟩ := hq
                      have hl := HGL.out
                      have va9 := va'.stay hst (by omega)
                      have vb9 := vb'.stay hst (by omega)
                      have vr9 := vr'.stay hst (by omega)
                      have vo9 := vo'.stay hst (by omega)
                      have hbw9 : Below w.heap.size w w9 := hbw.trans ((hst.below (B := G4) (by have := HML7.out _ HM4G.out; omega) (fun k hk => by omega)).mono (by have := HGE.out; omega))
                      have HFIN9 := Lib.hid (show JR (w9.setCell ⟨go, 3, none⟩ (.slice (some ⟨gg, 0, none⟩) (1 + 1) cap)) s 1 (.slice (some ⟨gg, 0, none⟩) (1 + 1) cap) ([j1] ++ [j2]) 0 (.slice none 0 0) [] by
                        have hd := hrow9.done (fun x h => HML4.out x h |> fun h => by rw [HG4.out]; exact h) (by unfold maxLen; simp)
                        have f : ∀ {v : Value} {t : Ty}, TyVN M4 W7 v t → TyVN M (w9.setCell ⟨go, 3, none⟩ (.slice (some ⟨gg, 0, none⟩) (1 + 1) cap)) v t := fun h => ((h.stay (hst.mono hm9)).mono fun x _ h => HM4M.out x h).set ⟨go, 3, none⟩ HM3.out _
                        have f2 : ∀ {v : Value} {l : List Ty}, TyS W7 (Lo M4 W7) v l → TyS (w9.setCell ⟨go, 3, none⟩ (.slice (some ⟨gg, 0, none⟩) (1 + 1) cap)) (Lo M (w9.setCell ⟨go, 3, none⟩ (.slice (some ⟨gg, 0, none⟩) (1 + 1) cap))) v l := fun h => TySN.set (TySN.mono (TySN.stay h (hst.mono hm9)) fun x _ h => HM4M.out x h) ⟨go, 3, none⟩ HM3.out _
                        rw [HJR.out]
                        exact ⟨va9.o NEa.out, vb9.o NEb.out, vr9.o NEr.out, vo9.s3, hbw9.setCell (p := ⟨go, 3, none⟩) HGE.out _, by have := hst.size; simp [World.setCell]; omega, f HA7.out, f HB7.out, ⟨f2 HU17.out, f2 HU27.out, f2 HU37.out, f2 HU47.out⟩, TySN.set hd ⟨go, 3, none⟩ HM3.out _, .mkNil _ _⟩)
                      replace HKU := Lib.hid (HKU.out.stay hst9 (by have := HGU.out; omega))
                      replace HKV := Lib.hid (HKV.out.stay hst9 (by have := HGV2.out; omega))
                      have qo3 := vo9.c3
                      have zo3 := vo9.fr 3
                      have tlo := vo9.lt
                      clear hrow9 hG8 hb89 hst9 hst hm9 va' vb' vr' vo' hbw hws hl va9 vb9 vr9 vo9 hbw9 hown9 hgrow9 hlies9 hlt9
                      clear hHeld
                      refine hK.out _ _ (by (try dsimp only); exact ⟨HKU.out.c0, HKU.out.c1, HKU.out.c2, HKU.out.c3, HKU.out.c4, HKU.out.c5, HKV.out.c0, HKV.out.c1, HKV.out.c2, HKV.out.c3, HKV.out.c4, HKV.out.c5⟩) (fun hHeld => ?_)
                      clear hK K
                      (try simp only [Act.put, List.setIfInBounds_toArray, List.set_cons_zero, List.set_cons_succ])
                      refine' take_any 7 110 (v := _) ?hi11 ?hd11 (by kernel_rfl) (by kernel_rfl) (by kernel_rfl) (fun _ _ _ h => h) ?hy11 hHeld ?hr11
                      case hi11 => (simp only [List.getElem?_toArray, List.getElem?_cons_succ, List.getElem?_cons_zero]; rfl)
                      case hd11 => rfl
                      case hy11 =>
                        refine' Or.inl ⟨?hw11, ?hx11⟩
                        case hw11 => rfl
                        case hx11 => (intro w hSw; (try dsimp only at hSw); go_simp; (try with_reducible rfl))
                      (try simp only [Act.put, List.setIfInBounds_toArray, List.set_cons_zero, List.set_cons_succ])
                      refine' take_call 8 ?hi12 (by kernel_rfl) ?hr12
                      case hi12 => (simp only [List.getElem?_toArray, List.getElem?_cons_succ, List.getElem?_cons_zero]; rfl)
                      intro K hK
                      go_simp
                      replace HKU := Lib.hid (HKU.out.o (m := go) (i := 3) (x := .slice (some ⟨gg, 0, none⟩) (1 + 1) cap) HGUV.out.1)
                      replace HKV := Lib.hid (HKV.out.o (m := go) (i := 3) (x := .slice (some ⟨gg, 0, none⟩) (1 + 1) cap) HGUV.out.2)
                      clear hHeld
                      refine hK.out _ _ (by (try dsimp only); exact ⟨HKU.out.c0, HKU.out.c1, HKU.out.c2, HKU.out.c3, HKU.out.c4, HKU.out.c5, HKV.out.c0, HKV.out.c1, HKV.out.c2, HKV.out.c3, HKV.out.c4, HKV.out.c5⟩) (fun hHeld => ?_)
                      clear hK K
                      (try simp only [Act.put, List.setIfInBounds_toArray, List.set_cons_zero, List.set_cons_succ])
                      refine wpAnyH_done (by kernel_rfl) ?_ _
                      refine NoPanic.normal ?_
                      clear qo3 zo3 tlo hHeld
                      go_wp2
                      go_meet
                      case rel => exact ⟨_, Lib.hid (by rw [X1.out, X2.out]; exact HFIN9.out)⟩
                    case hb17 =>
                      intro K hK
                      go_simp
                      have hba : Below w8.heap.size w8 (w8.alloc (.cells #[.bool ca, .int .i64 cf, .int .i64 cp, .slice cpa cnp cpc, .int .i64 ck, .slice cfa cnf cfc] 24)) := (Below.refl _ _).alloc (Nat.le_refl _) _
                      replace HKU := Lib.hid (HKU.out.keep hba)
                      replace HKV := Lib.hid (HKV.out.keep hba)
                      replace HKO := Lib.hid (HKO.out.keep hba)
                      have qo3 := HKO.out.c3
                      clear hba
                      clear hHeld
                      refine hK.out _ _ (by (try dsimp only); exact ⟨HKU.out.c0, HKU.out.c1, HKU.out.c2, HKU.out.c3, HKU.out.c4, HKU.out.c5, HKV.out.c0, HKV.out.c1, HKV.out.c2, HKV.out.c3, HKV.out.c4, HKV.out.c5⟩) (fun hHeld => ?_)
                      clear hK K
                      (try simp only [Act.put, List.setIfInBounds_toArray, List.set_cons_zero, List.set_cons_succ])
                      refine' take_call 1 ?hi13 (by kernel_rfl) ?hr13
                      case hi13 => (simp only [List.getElem?_toArray, List.getElem?_cons_succ, List.getElem?_cons_zero]; rfl)
                      intro K hK
                      go_simp
                      go_wp2_with fail
                      clear hHeld
                      refine hK.out _ _ (by (try dsimp only); exact ⟨HKU.out.c0, HKU.out.c1, HKU.out.c2, HKU.out.c3, HKU.out.c4, HKU.out.c5, HKV.out.c0, HKV.out.c1, HKV.out.c2, HKV.out.c3, HKV.out.c4, HKV.out.c5⟩) (fun hHeld => ?_)
                      clear hK K
                      (try simp only [Act.put, List.setIfInBounds_toArray, List.set_cons_zero, List.set_cons_succ])
                      refine' take_call 6 ?hi14 (by kernel_rfl) ?hr14
                      case hi14 => (simp only [List.getElem?_toArray, List.getElem?_cons_succ, List.getElem?_cons_zero]; rfl)
                      intro K hK
                      refine step_append_lies _ (by rfl) (.tmp 104) (.tmp 108) 22 (by rfl) G4 24 i0 (.agg #[.bool false, .int .i64 0, .int .i64 0, .slice none 0 0, .int .i64 0, .slice none 0 0]) 6 80 Tryd.underlying22 hi hz0 hz1 hz2 rfl (by decide) _ 1 (rawsCells rs) (by rfl) HOWN.out ⟨w8.heap.size, 0, none⟩ 1 1 (rawCells ⟨ca, cf, cp, .slice cpa cnp cpc, ck, .slice cfa cnf cfc⟩) (by rfl) rfl (World.news_of_block (heap_alloc_new w8 _)) ?k2 (by omega) ?k3 ?k4 ?k5 (w8.heap.size + 1) (alloc_hs _ _) ?_
                      case k2 => intro x hx; simp only [rawCells, List.mem_cons, List.not_mem_nil, or_false] at hx; rcases hx with rfl | rfl | rfl | rfl | rfl | rfl <;> rfl
                      case k3 => unfold maxLen; omega
                      case k4 => omega
                      case k5 => rw [alloc_hs]; have := HML7.out _ HM4G.out; have := HB8.out.size; omega
                      intro gg cap w9 hown9 hgrow9 hlies9 hlt9
                      have hrow9 : RowT M G4 w9 (.slice (some ⟨gg, 0, none⟩) (1 + 1) cap) ([j1] ++ [j2]) := by
                        have h2 : RawOf w8 (fun x => Lo M w8 x ∧ (Value.slice (some ⟨G4, 0, none⟩) 1 1).ownBlock ≠ some x) ⟨ca, cf, cp, .slice cpa cnp cpc, ck, .slice cfa cnf cfc⟩ j2 := HDR.out.mono (fun x h => ⟨⟨h.1, fun e => h.2 (HM4M.out x e)⟩, fun e => h.2 (by simp only [Value.ownBlock, Option.some.injEq] at e; rw [← e]; exact HM4G.out)⟩) fun _ _ _ => rfl
                        exact rowt_push (l := [j1]) HRAW.out h2 hgrow9 hlies9 hown9
                      have hG8 : G4 < w8.heap.size := by have := HML7.out _ HM4G.out; have := HB8.out.size; omega
                      have hb89 : Below G4 (w8.alloc (.cells #[.bool ca, .int .i64 cf, .int .i64 cp, .slice cpa cnp cpc, .int .i64 ck, .slice cfa cnf cfc] 24)) w9 := (Below.refl G4 _).grown hgrow9 (by rw [alloc_hs]; omega) (fun k hk => by simp only [Value.ownBlock, Option.some.injEq] at hk; omega)
                      have hst9 : Stay (· = G4) (w8.alloc (.cells #[.bool ca, .int .i64 cf, .int .i64 cp, .slice cpa cnp cpc, .int .i64 ck, .slice cfa cnf cfc] 24)) w9 := Stay.of_grown hgrow9 hb89 (fun k hk => by simp only [Value.ownBlock, Option.some.injEq] at hk; omega)
                      have hst : Stay (· = G4) W7 w9 := (Stay.of (HB8.out.trans ((Below.refl _ _).alloc HB8.out.size _))).trans hst9
                      have hm9 : ∀ x, x = G4 → M4 x := fun x h => by rw [h]; exact HM4G.out
                      have hq : BoxAt W7 g false F xp (.slice pa np pc) xn (.slice fa nf fc) ∧ BoxAt W7 (g + 1) false G yp (.slice qa mp qc) yn (.slice ga mf gc) ∧ BoxAt W7 gr false 0 0 (.slice none 0 0) 0 (.slice none 0 0) ∧ BoxAt W7 go false s 1 (.slice (some ⟨G4, 0, none⟩) 1 1) 0 (.slice none 0 0) ∧ Below w.heap.size w W7 ∧ W.heap.size ≤ W7.heap.size := by
                        have h := HJ7.out
                        rw [HJR.out] at h
                        exact ⟨h.1, h.2.1, h.2.2.1, h.2.2.2.1, h.2.2.2.2.1, h.2.2.2.2.2.1⟩
                      obtain ⟨va', vb', vr', vo', hbw, hws⟩ := hq
                      have hl := HGL.out
                      have va9 := va'.stay hst (by omega)
                      have vb9 := vb'.stay hst (by omega)
                      have vr9 := vr'.stay hst (by omega)
                      have vo9 := vo'.stay hst (by omega)
                      have hbw9 : Below w.heap.size w w9 := hbw.trans ((hst.below (B := G4) (by have := HML7.out _ HM4G.out; omega) (fun k hk => by omega)).mono (by have := HGE.out; omega))
                      have HFIN9 := Lib.hid (show JR (w9.setCell ⟨go, 3, none⟩ (.slice (some ⟨gg, 0, none⟩) (1 + 1) cap)) s 1 (.slice (some ⟨gg, 0, none⟩) (1 + 1) cap) ([j1] ++ [j2]) 0 (.slice none 0 0) [] by
                        have hd := hrow9.done (fun x h => HML4.out x h |> fun h => by rw [HG4.out]; exact h) (by unfold maxLen; simp)
                        have f : ∀ {v : Value} {t : Ty}, TyVN M4 W7 v t → TyVN M (w9.setCell ⟨go, 3, none⟩ (.slice (some ⟨gg, 0, none⟩) (1 + 1) cap)) v t := fun h => ((h.stay (hst.mono hm9)).mono fun x _ h => HM4M.out x h).set ⟨go, 3, none⟩ HM3.out _
                        have f2 : ∀ {v : Value} {l : List Ty}, TyS W7 (Lo M4 W7) v l → TyS (w9.setCell ⟨go, 3, none⟩ (.slice (some ⟨gg, 0, none⟩) (1 + 1) cap)) (Lo M (w9.setCell ⟨go, 3, none⟩ (.slice (some ⟨gg, 0, none⟩) (1 + 1) cap))) v l := fun h => TySN.set (TySN.mono (TySN.stay h (hst.mono hm9)) fun x _ h => HM4M.out x h) ⟨go, 3, none⟩ HM3.out _
                        rw [HJR.out]
                        exact ⟨va9.o NEa.out, vb9.o NEb.out, vr9.o NEr.out, vo9.s3, hbw9.setCell (p := ⟨go, 3, none⟩) HGE.out _, by have := hst.size; simp [World.setCell]; omega, f HA7.out, f HB7.out, ⟨f2 HU17.out, f2 HU27.out, f2 HU37.out, f2 HU47.out⟩, TySN.set hd ⟨go, 3, none⟩ HM3.out _, .mkNil _ _⟩)
                      replace HKU := Lib.hid (HKU.out.stay hst9 (by have := HGU.out; omega))
                      replace HKV := Lib.hid (HKV.out.stay hst9 (by have := HGV2.out; omega))
                      have qo3 := vo9.c3
                      have zo3 := vo9.fr 3
                      have tlo := vo9.lt
                      clear hrow9 hG8 hb89 hst9 hst hm9 va' vb' vr' vo' hbw hws hl va9 vb9 vr9 vo9 hbw9 hown9 hgrow9 hlies9 hlt9
                      clear hHeld
                      refine hK.out _ _ (by (try dsimp only); exact ⟨HKU.out.c0, HKU.out.c1, HKU.out.c2, HKU.out.c3, HKU.out.c4, HKU.out.c5, HKV.out.c0, HKV.out.c1, HKV.out.c2, HKV.out.c3, HKV.out.c4, HKV.out.c5⟩) (fun hHeld => ?_)
                      clear hK K
                      (try simp only [Act.put, List.setIfInBounds_toArray, List.set_cons_zero, List.set_cons_succ])
                      refine' take_any 7 110 (v := _) ?hi15 ?hd15 (by kernel_rfl) (by kernel_rfl) (by kernel_rfl) (fun _ _ _ h => h) ?hy15 hHeld ?hr15
                      case hi15 => (simp only [List.getElem?_toArray, List.getElem?_cons_succ, List.getElem?_cons_zero]; rfl)
                      case hd15 => rfl
                      case hy15 =>
                        refine' Or.inl ⟨?hw15, ?hx15⟩
                        case hw15 => rfl
                        case hx15 => (intro w hSw; (try dsimp only at hSw); go_simp; (try with_reducible rfl))
                      (try simp only [Act.put, List.setIfInBounds_toArray, List.set_cons_zero, List.set_cons_succ])
                      refine' take_call 8 ?hi16 (by kernel_rfl) ?hr16
                      case hi16 => (simp only [List.getElem?_toArray, List.getElem?_cons_succ, List.getElem?_cons_zero]; rfl)
                      intro K hK
                      go_simp
                      replace HKU := Lib.hid (HKU.out.o (m := go) (i := 3) (x := .slice (some ⟨gg, 0, none⟩) (1 + 1) cap) HGUV.out.1)
                      replace HKV := Lib.hid (HKV.out.o (m := go) (i := 3) (x := .slice (some ⟨gg, 0, none⟩) (1 + 1) cap) HGUV.out.2)
                      clear hHeld
                      refine hK.out _ _ (by (try dsimp only); exact ⟨HKU.out.c0, HKU.out.c1, HKU.out.c2, HKU.out.c3, HKU.out.c4, HKU.out.c5, HKV.out.c0, HKV.out.c1, HKV.out.c2, HKV.out.c3, HKV.out.c4, HKV.out.c5⟩) (fun hHeld => ?_)
                      clear hK K
                      (try simp only [Act.put, List.setIfInBounds_toArray, List.set_cons_zero, List.set_cons_succ])
                      refine wpAnyH_done (by kernel_rfl) ?_ _
                      refine NoPanic.normal ?_
                      clear qo3 zo3 tlo hHeld
                      go_wp2
                      go_meet
                      case rel => exact ⟨_, Lib.hid (by rw [X1.out, X2.out]; exact HFIN9.out)⟩
                · skip
                  have HD2 := Lib.hid (show (yp == 1) = true from beq_iff_eq.2 (one.resolve_left c1))
                  have e1 : P = 1 := by rw [HPP.out, if_pos one]
                  obtain ⟨j2, hj2⟩ : ∃ j, j = joinF n (cdrT a) (cdrT b) := ⟨_, rfl⟩
                  have e2 : PS = [j1] ++ [j2] := by rw [HPS.out, if_pos one, HJ1.out, hj2]; rfl
                  have hsum : szT (cdrT a) + szT (cdrT b) ≤ n := by
                    have h1 := HDA2.out
                    have h2 := HDB2.out
                    have h3 := HSZ.out
                    rcases one with h | h
                    · have := h1.2.1 h; omega
                    · have := h2.2.1 h; omega
                  have X1 := Lib.hid e1
                  have X2 := Lib.hid e2
                  have HJ2E := Lib.hid hj2
                  have HSUM := Lib.hid hsum
                  clear e1 e2 one hj2 hsum
                  obtain ⟨X4, hX4⟩ : ∃ X, X = w4.setCell ⟨go, 3, none⟩ (.slice (some ⟨w4.heap.size, 0, none⟩) 1 1) := ⟨_, rfl⟩
                  have hXs : X4.heap.size = w4.heap.size := by rw [hX4]; simp [World.setCell]
                  obtain ⟨G4, hG4⟩ : ∃ G, G = w4.heap.size := ⟨_, rfl⟩
                  obtain ⟨M4, hM4⟩ : ∃ M4 : Nat → Prop, M4 = fun x => M x ∨ x = G4 := ⟨_, rfl⟩
                  have HM4M := Lib.hid (show ∀ x, M x → M4 x by rw [hM4]; exact fun x h => .inl h)
                  have HM4G := Lib.hid (show M4 G4 by rw [hM4]; exact .inr rfl)
                  obtain ⟨W5, hW5⟩ : ∃ W, W = X4.alloc (.cells #[.bool j1.all, .int .i64 j1.flat, .int .i64 j1.pair, .slice ja j1.pairs.length jb, .int .i64 j1.fn, .slice jc j1.funs.length jd] 24) := ⟨_, rfl⟩
                  have hal : Below X4.heap.size X4 W5 := by rw [hW5]; exact (Below.refl _ _).alloc (Nat.le_refl _) _
                  have hlat : ∀ x, M4 x → M x ∨ X4.heap.size ≤ x := by rw [hM4]; rintro x (h | h); exact .inl h; exact .inr (by omega)
                  have HJ5W := Lib.hid (show JR W5 s p1 (.slice (some ⟨G4, 0, none⟩) 1 1) [j1] 0 (.slice none 0 0) [] by rw [hW5, hX4, hG4]; exact HJ42.out)
                  have HA5 := Lib.hid (show TyVN M4 W5 (.agg #[.bool false, .int .i64 F, .int .i64 xp, .slice pa np pc, .int .i64 xn, .slice fa nf fc]) a by refine TyVN.later (N := M) ?_ hal hlat; rw [hX4]; exact HNA.out.set ⟨go, 3, none⟩ HM3.out _)
                  have HB5 := Lib.hid (show TyVN M4 W5 (.agg #[.bool false, .int .i64 G, .int .i64 yp, .slice qa mp qc, .int .i64 yn, .slice ga mf gc]) b by refine TyVN.later (N := M) ?_ hal hlat; rw [hX4]; exact HNB.out.set ⟨go, 3, none⟩ HM3.out _)
                  have ht : TyS w4 (Lo M w4) (.slice pa np pc) a.pairs ∧ TyS w4 (Lo M w4) (.slice fa nf fc) a.funs ∧ TyS w4 (Lo M w4) (.slice qa mp qc) b.pairs ∧ TyS w4 (Lo M w4) (.slice ga mf gc) b.funs := by
                    have h := HJw4.out
                    rw [HJR.out] at h
                    exact h.2.2.2.2.2.2.2.2.1
                  have HT1 := Lib.hid (show TyS W5 (Lo M4 W5) (.slice pa np pc) a.pairs by refine TySN.later (N := M) ?_ hal hlat; rw [hX4]; exact TySN.set ht.1 ⟨go, 3, none⟩ HM3.out _)
                  have HT2 := Lib.hid (show TyS W5 (Lo M4 W5) (.slice fa nf fc) a.funs by refine TySN.later (N := M) ?_ hal hlat; rw [hX4]; exact TySN.set ht.2.1 ⟨go, 3, none⟩ HM3.out _)
                  have HT3 := Lib.hid (show TyS W5 (Lo M4 W5) (.slice qa mp qc) b.pairs by refine TySN.later (N := M) ?_ hal hlat; rw [hX4]; exact TySN.set ht.2.2.1 ⟨go, 3, none⟩ HM3.out _)
                  have HT4 := Lib.hid (show TyS W5 (Lo M4 W5) (.slice ga mf gc) b.funs by refine TySN.later (N := M) ?_ hal hlat; rw [hX4]; exact TySN.set ht.2.2.2 ⟨go, 3, none⟩ HM3.out _)
                  have h1 : RawOf X4 (Lo M X4) ⟨j1.all, j1.flat, j1.pair, .slice ja j1.pairs.length jb, j1.fn, .slice jc j1.funs.length jd⟩ j1 := by
                    rw [hX4]
                    exact HR1.out.mono (fun _ hb => (Lo.set (⟨go, 3, none⟩, _) rfl HM3.out hb).1) fun _ o hb => (Lo.set (⟨go, 3, none⟩, _) rfl HM3.out hb).2 o
                  have h2 := RowT.one (B := G4) h1 (by omega)
                  rw [hXs, ← hG4] at h2
                  have HROW := Lib.hid (show RowT M G4 W5 (.slice (some ⟨G4, 0, none⟩) 1 1) [j1] by rw [hW5]; exact h2)
                  clear h1 h2
                  have hml5 : ∀ x, M4 x → x < W5.heap.size := by
                    have h1 := hal.size
                    have h2 : W5.heap.size = G4 + 1 := by rw [hW5, alloc_hs, hXs, hG4]
                    rw [hM4]
                    rintro x (h | h)
                    · have := HML4.out x h; omega
                    · omega
                  have HML5 := Lib.hid hml5
                  have HGL := Lib.hid (show g < G4 ∧ g + 1 < G4 ∧ gr < G4 ∧ go < G4 by rw [hG4]; exact ⟨tla, tlb, HLR4.out, tlo⟩)
                  rw [hX4] at hW5
                  have HW5 := Lib.hid hW5
                  have HG4 := Lib.hid hG4
                  have HM4 := Lib.hid hM4
                  clear hX4 hXs hal hlat ht hml5 hW5 hG4 hM4 HA4 HO1 HJ41 HJ42
                  have d1 : (xp == 1) = false := beq_false_of_ne c1
                  have d2 : (yp == 1) = true := HD2.out
                  clear c1
                  have va5 : BoxAt W5 g false F xp (.slice pa np pc) xn (.slice fa nf fc) := by
                    have h := HJ5W.out
                    rw [HJR.out] at h
                    exact h.1
                  have vb5 : BoxAt W5 (g + 1) false G yp (.slice qa mp qc) yn (.slice ga mf gc) := by
                    have h := HJ5W.out
                    rw [HJR.out] at h
                    exact h.2.1
                  have p0 := va5.c0
                  have p1' := va5.c1
                  have p2 := va5.c2
                  have p3 := va5.c3
                  have p4 := va5.c4
                  have p5 := va5.c5
                  have r2 := vb5.c2
                  rw [HW5.out] at p0 p1' p2 p3 p4 p5 r2
                  clear va5 vb5 qa0 qa1 qa2 qa3 qa4 qa5 qb0 qb1 qb2 qb3 qb4 qb5 tla tlb
                  go_wp2_with fail
                  rw [← HW5.out]
                  try rw [← HG4.out]
                  clear p0 p1' p2 p3 p4 p5 r2 qo0 qo1 qo2 qo3 qo4 qo5 tlo zo0 zo1 zo2 zo3 zo4 zo5
                  refine (cdr_any M4 a _ W5 HML5.out HA5.out).mono ?_
                  rintro e w6 ⟨⟨v, rfl, hv⟩, hb⟩
                  obtain ⟨ua, uf, up, upa, unp, upc, uk, ufa, unf, ufc, rfl⟩ := hv.shape
                  obtain ⟨W6x, hW6⟩ : ∃ W, W = w6.alloc (.cells #[.bool ua, .int .i64 uf, .int .i64 up, .slice upa unp upc, .int .i64 uk, .slice ufa unf ufc] 24) := ⟨_, rfl⟩
                  obtain ⟨gu, hgu⟩ : ∃ z, z = w6.heap.size := ⟨_, rfl⟩
                  have hb6 : Below w6.heap.size w6 W6x := by rw [hW6]; exact (Below.refl _ _).alloc (Nat.le_refl _) _
                  have hbb : Below W5.heap.size W5 W6x := hb.trans (hb6.mono hb.size)
                  have HVu := Lib.hid (show BoxAt W6x gu ua uf up (.slice upa unp upc) uk (.slice ufa unf ufc) by rw [hW6, hgu]; exact BoxAt.made _ _ _ _ _ _ _)
                  have HNu := Lib.hid (hv.below hb6)
                  have HJ6 := Lib.hid (HJB.out _ _ _ _ _ _ _ _ _ HJ5W.out hbb)
                  have HA6 := Lib.hid (HA5.out.below hbb)
                  have HB6 := Lib.hid (HB5.out.below hbb)
                  have HU1 := Lib.hid (TySN.below HT1.out hbb)
                  have HU2 := Lib.hid (TySN.below HT2.out hbb)
                  have HU3 := Lib.hid (TySN.below HT3.out hbb)
                  have HU4 := Lib.hid (TySN.below HT4.out hbb)
                  have HROW6 := Lib.hid (HROW.out.below hbb)
                  have HML6x := Lib.hid (show ∀ x, M4 x → x < W6x.heap.size from fun x h => Nat.lt_of_lt_of_le (HML5.out x h) hbb.size)
                  have HGU := Lib.hid (show G4 < gu by rw [hgu]; exact Nat.lt_of_lt_of_le (HML5.out _ HM4G.out) hb.size)
                  have vb : BoxAt W6x (g + 1) false G yp (.slice qa mp qc) yn (.slice ga mf gc) := by
                    have h := HJ6.out
                    rw [HJR.out] at h
                    exact h.2.1
                  have qb0 := vb.c0
                  have qb1 := vb.c1
                  have qb2 := vb.c2
                  have qb3 := vb.c3
                  have qb4 := vb.c4
                  have qb5 := vb.c5
                  rw [hW6] at qb0 qb1 qb2 qb3 qb4 qb5
                  have HW6 := Lib.hid hW6
                  have HGUE := Lib.hid hgu
                  clear hv hb hb6 hbb hW6 hgu vb HJ5W HA5 HB5 HT1 HT2 HT3 HT4 HROW HML5
                  go_wp2_with fail
                  rw [← HGUE.out, ← HW6.out]
                  clear qb0 qb1 qb2 qb3 qb4 qb5
                  refine (cdr_any M4 b _ W6x HML6x.out HB6.out).mono ?_
                  rintro e w7 ⟨⟨v, rfl, hv⟩, hb⟩
                  obtain ⟨va, vf, vp, vpa, vnp, vpc, vk, vfa, vnf, vfc, rfl⟩ := hv.shape
                  obtain ⟨X7, hX7⟩ : ∃ X, X = w7.setCell ⟨go, 2, none⟩ (.int .i64 1) := ⟨_, rfl⟩
                  have hXs : X7.heap.size = w7.heap.size := by rw [hX7]; simp [World.setCell]
                  obtain ⟨W7, hW7⟩ : ∃ W, W = X7.alloc (.cells #[.bool va, .int .i64 vf, .int .i64 vp, .slice vpa vnp vpc, .int .i64 vk, .slice vfa vnf vfc] 24) := ⟨_, rfl⟩
                  obtain ⟨gv, hgv⟩ : ∃ z, z = w7.heap.size := ⟨_, rfl⟩
                  have hst : Stay (· = go) w7 X7 := by rw [hX7]; exact Stay.set (N := (· = go)) .refl rfl _
                  have hal : Below X7.heap.size X7 W7 := by rw [hW7]; exact (Below.refl _ _).alloc (Nat.le_refl _) _
                  have hM4o : M4 go := HM4M.out _ HM3.out
                  have hmon : ∀ x, x = go → M4 x := fun x h => by rw [h]; exact hM4o
                  have HVu7 := Lib.hid (show BoxAt W7 gu ua uf up (.slice upa unp upc) uk (.slice ufa unf ufc) from (((HVu.out.keep hb).stay hst (by have := HGU.out; have := HGL.out; omega)).keep hal))
                  have HVv7 := Lib.hid (show BoxAt W7 gv va vf vp (.slice vpa vnp vpc) vk (.slice vfa vnf vfc) by rw [hW7, hgv, ← hXs]; exact BoxAt.made _ _ _ _ _ _ _)
                  have HNu7 := Lib.hid (((HNu.out.below hb).stay (hst.mono hmon)).below hal)
                  have HNv7 := Lib.hid ((hv.stay (hst.mono hmon)).below hal)
                  have HA7 := Lib.hid (((HA6.out.below hb).stay (hst.mono hmon)).below hal)
                  have HB7 := Lib.hid (((HB6.out.below hb).stay (hst.mono hmon)).below hal)
                  have HU17 := Lib.hid (TySN.below (TySN.stay (TySN.below HU1.out hb) (hst.mono hmon)) hal)
                  have HU27 := Lib.hid (TySN.below (TySN.stay (TySN.below HU2.out hb) (hst.mono hmon)) hal)
                  have HU37 := Lib.hid (TySN.below (TySN.stay (TySN.below HU3.out hb) (hst.mono hmon)) hal)
                  have HU47 := Lib.hid (TySN.below (TySN.stay (TySN.below HU4.out hb) (hst.mono hmon)) hal)
                  have HROW7 := Lib.hid (((HROW6.out.below hb).stay hst (fun x h => by rw [h]; exact HM3.out) (fun x h => by rw [h]; exact HGL.out.2.2.2)).below hal)
                  have HJ7w := Lib.hid (HJB.out _ _ _ _ _ _ _ _ _ HJ6.out hb)
                  have HJ7 := Lib.hid (show JR W7 s 1 (.slice (some ⟨G4, 0, none⟩) 1 1) [j1] 0 (.slice none 0 0) [] from HJB.out _ _ _ _ _ _ _ _ _ (by rw [hX7]; exact HJ2.out _ _ _ _ _ _ _ _ 1 HJ7w.out) hal)
                  have HML7 := Lib.hid (show ∀ x, M4 x → x < W7.heap.size from fun x h => by have := HML6x.out x h; have := hb.size; have := hal.size; omega)
                  have vo : BoxAt w7 go false s p1 (.slice (some ⟨G4, 0, none⟩) 1 1) 0 (.slice none 0 0) := by
                    have h := HJ7w.out
                    rw [HJR.out] at h
                    exact h.2.2.2.1
                  have qo2 := vo.c2
                  have zo2 := vo.fr 2
                  have tlo := vo.lt
                  rw [hX7] at hW7
                  have HW7 := Lib.hid hW7
                  have HGV := Lib.hid hgv
                  have HGV2 := Lib.hid (show G4 < gv by have h1 := HML6x.out _ HM4G.out; have h2 := hb.size; omega)
                  have HGUV := Lib.hid (show gu ≠ go ∧ gv ≠ go by have h1 := HGU.out; have h2 := HGL.out; have h3 := HGV2.out; omega)
                  clear vo hv hb hX7 hXs hst hal hmon hM4o hW7 hgv HJ6 HA6 HB6 HU1 HU2 HU3 HU4 HROW6 HML6x HVu HNu HJ7w
                  go_upto_region 22 with fail
                  rw [← HGV.out, ← HW7.out]
                  clear qo2 zo2 tlo
                  have vo : BoxAt W7 go false s 1 (.slice (some ⟨G4, 0, none⟩) 1 1) 0 (.slice none 0 0) := by
                    have h := HJ7.out
                    rw [HJR.out] at h
                    exact h.2.2.2.1
                  have qo3 := vo.c3
                  have u0 := HVu7.out.c0
                  have u1 := HVu7.out.c1
                  have u2 := HVu7.out.c2
                  have u3 := HVu7.out.c3
                  have u4 := HVu7.out.c4
                  have u5 := HVu7.out.c5
                  have v0 := HVv7.out.c0
                  have v1 := HVv7.out.c1
                  have v2 := HVv7.out.c2
                  have v3 := HVv7.out.c3
                  have v4 := HVv7.out.c4
                  have v5 := HVv7.out.c5
                  have hbd : Below W7.heap.size W7 W7.drew := (Below.refl _ _).drew
                  have hcc := HI.out M4 (cdrT a) (cdrT b) _ _ W7.drew (fun x h => HML7.out x h) HSUM.out HDA2.out.2.2 HDB2.out.2.2 (HNu7.out.below hbd) (HNv7.out.below hbd)
                  rw [← HJ2E.out] at hcc
                  have HCC := Lib.hid hcc
                  clear hcc
                  have HKU := Lib.hid (HVu7.out.keep hbd)
                  have HKV := Lib.hid (HVv7.out.keep hbd)
                  have HKO := Lib.hid (vo.keep hbd)
                  clear vo hbd
                  refine wp_region_noPanic ?_
                  refine wp_region_held_drew (S := (fun w' => w'.cell? ⟨gu, 0, none⟩ = some (.bool ua) ∧ w'.cell? ⟨gu, 1, none⟩ = some (.int .i64 uf) ∧ w'.cell? ⟨gu, 2, none⟩ = some (.int .i64 up) ∧ w'.cell? ⟨gu, 3, none⟩ = some (.slice upa unp upc) ∧ w'.cell? ⟨gu, 4, none⟩ = some (.int .i64 uk) ∧ w'.cell? ⟨gu, 5, none⟩ = some (.slice ufa unf ufc) ∧ w'.cell? ⟨gv, 0, none⟩ = some (.bool va) ∧ w'.cell? ⟨gv, 1, none⟩ = some (.int .i64 vf) ∧ w'.cell? ⟨gv, 2, none⟩ = some (.int .i64 vp) ∧ w'.cell? ⟨gv, 3, none⟩ = some (.slice vpa vnp vpc) ∧ w'.cell? ⟨gv, 4, none⟩ = some (.int .i64 vk) ∧ w'.cell? ⟨gv, 5, none⟩ = some (.slice vfa vnf vfc))) (by kernel_rfl) (by (try dsimp only); exact ⟨HKU.out.c0, HKU.out.c1, HKU.out.c2, HKU.out.c3, HKU.out.c4, HKU.out.c5, HKV.out.c0, HKV.out.c1, HKV.out.c2, HKV.out.c3, HKV.out.c4, HKV.out.c5⟩) (fun hHeld => ?_)
                  clear u0 u1 u2 u3 u4 u5 v0 v1 v2 v3 v4 v5
                  refine' take_any 0 103 (v := _) ?hi19 ?hd19 (by kernel_rfl) (by kernel_rfl) (by kernel_rfl) (fun _ _ _ h => h) ?hy19 hHeld ?hr19
                  case hi19 => (simp only [List.getElem?_toArray, List.getElem?_cons_zero]; rfl)
                  case hd19 => rfl
                  case hy19 =>
                    refine' Or.inl ⟨?hw19, ?hx19⟩
                    case hw19 => rfl
                    case hx19 => (intro w hSw; (try dsimp only at hSw); go_simp; (try with_reducible rfl))
                  (try simp only [Act.put, List.setIfInBounds_toArray, List.set_cons_zero, List.set_cons_succ])
                  refine' take_any 2 105 (v := _) ?hi20 ?hd20 (by kernel_rfl) (by kernel_rfl) (by kernel_rfl) (fun _ _ _ h => h) ?hy20 hHeld ?hr20
                  case hi20 => (simp only [List.getElem?_toArray, List.getElem?_cons_succ, List.getElem?_cons_zero]; rfl)
                  case hd20 => rfl
                  case hy20 =>
                    refine' Or.inl ⟨?hw20, ?hx20⟩
                    case hw20 => rfl
                    case hx20 => (intro w hSw; (try dsimp only at hSw); go_simp; (try with_reducible rfl))
                  (try simp only [Act.put, List.setIfInBounds_toArray, List.set_cons_zero, List.set_cons_succ])
                  refine' take_any 3 106 (v := _) ?hi21 ?hd21 (by kernel_rfl) (by kernel_rfl) (by kernel_rfl) (fun _ _ _ h => h) ?hy21 hHeld ?hr21
                  case hi21 => (simp only [List.getElem?_toArray, List.getElem?_cons_succ, List.getElem?_cons_zero]; rfl)
                  case hd21 => rfl
                  case hy21 =>
                    refine' Or.inl ⟨?hw21, ?hx21⟩
                    case hw21 => rfl
                    case hx21 => (intro w hSw; (try dsimp only at hSw); go_simp; (try with_reducible rfl))
                  (try simp only [Act.put, List.setIfInBounds_toArray, List.set_cons_zero, List.set_cons_succ])
                  refine' take_two 1 4 ?hi36 ?hj36 (by kernel_rfl) ?ha36 ?hb36
                  case hi36 => (simp only [List.getElem?_toArray, List.getElem?_cons_succ, List.getElem?_cons_zero]; rfl)
                  case hj36 => (simp only [List.getElem?_toArray, List.getElem?_cons_succ, List.getElem?_cons_zero]; rfl)
                  case ha36 =>
                    intro K hK
                    go_simp
                    go_wp2_with fail
                    clear hHeld
                    refine hK.out _ _ (by (try dsimp only); exact ⟨HKU.out.c0, HKU.out.c1, HKU.out.c2, HKU.out.c3, HKU.out.c4, HKU.out.c5, HKV.out.c0, HKV.out.c1, HKV.out.c2, HKV.out.c3, HKV.out.c4, HKV.out.c5⟩) (fun hHeld => ?_)
                    clear hK K
                    (try simp only [Act.put, List.setIfInBounds_toArray, List.set_cons_zero, List.set_cons_succ])
                    refine' take_call 4 ?hi22 (by kernel_rfl) ?hr22
                    case hi22 => (simp only [List.getElem?_toArray, List.getElem?_cons_succ, List.getElem?_cons_zero]; rfl)
                    intro K hK
                    go_simp
                    go_at_call 19
                    refine HCC.out.mono ?_
                    rintro e w8 ⟨⟨v, rfl, hv⟩, hb0⟩
                    obtain ⟨ca, cf, cp, cpa, cnp, cpc, ck, cfa, cnf, cfc, rfl⟩ := hv.shape
                    have hb : Below W7.heap.size W7 w8 := (Below.refl _ _).drew.trans hb0
                    replace HKU := Lib.hid (HKU.out.keep hb0)
                    replace HKV := Lib.hid (HKV.out.keep hb0)
                    replace HKO := Lib.hid (HKO.out.keep hb0)
                    have qo3 := HKO.out.c3
                    obtain ⟨i0, hi, hz0, hz1, hz2⟩ := info_parts Tryd.infoTy
                    have hdr := hv.raw
                    obtain ⟨rs, hown, hraw⟩ := HROW7.out.below hb
                    have HDR := Lib.hid hdr
                    have HRAW := Lib.hid hraw
                    have HOWN := Lib.hid (hown.alloc (.cells #[.bool ca, .int .i64 cf, .int .i64 cp, .slice cpa cnp cpc, .int .i64 ck, .slice cfa cnf cfc] 24))
                    have HB8 := Lib.hid hb
                    have HK8 := Lib.hid (show go < w8.heap.size by have := HGL.out; have := HML7.out _ HM4G.out; have := hb.size; omega)
                    clear hdr hown hraw hb hb0 hv HCC
                    go_wp2_with fail
                    clear hHeld
                    refine hK.out _ _ (by (try dsimp only); exact ⟨HKU.out.c0, HKU.out.c1, HKU.out.c2, HKU.out.c3, HKU.out.c4, HKU.out.c5, HKV.out.c0, HKV.out.c1, HKV.out.c2, HKV.out.c3, HKV.out.c4, HKV.out.c5⟩) (fun hHeld => ?_)
                    clear hK K
                    (try simp only [Act.put, List.setIfInBounds_toArray, List.set_cons_zero, List.set_cons_succ])
                    refine' take_call 5 ?hi23 (by kernel_rfl) ?hr23
                    case hi23 => (simp only [List.getElem?_toArray, List.getElem?_cons_succ, List.getElem?_cons_zero]; rfl)
                    intro K hK
                    go_simp
                    have hba : Below w8.heap.size w8 (w8.alloc (.cells #[.bool ca, .int .i64 cf, .int .i64 cp, .slice cpa cnp cpc, .int .i64 ck, .slice cfa cnf cfc] 24)) := (Below.refl _ _).alloc (Nat.le_refl _) _
                    replace HKU := Lib.hid (HKU.out.keep hba)
                    replace HKV := Lib.hid (HKV.out.keep hba)
                    replace HKO := Lib.hid (HKO.out.keep hba)
                    have qo3 := HKO.out.c3
                    clear hba
                    clear hHeld
                    refine hK.out _ _ (by (try dsimp only); exact ⟨HKU.out.c0, HKU.out.c1, HKU.out.c2, HKU.out.c3, HKU.out.c4, HKU.out.c5, HKV.out.c0, HKV.out.c1, HKV.out.c2, HKV.out.c3, HKV.out.c4, HKV.out.c5⟩) (fun hHeld => ?_)
                    clear hK K
                    (try simp only [Act.put, List.setIfInBounds_toArray, List.set_cons_zero, List.set_cons_succ])
                    refine' take_call 6 ?hi24 (by kernel_rfl) ?hr24
                    case hi24 => (simp only [List.getElem?_toArray, List.getElem?_cons_succ, List.getElem?_cons_zero]; rfl)
                    intro K hK
                    refine step_append_lies _ (by rfl) (.tmp 104) (.tmp 108) 22 (by rfl) G4 24 i0 (.agg #[.bool false, .int .i64 0, .int .i64 0, .slice none 0 0, .int .i64 0, .slice none 0 0]) 6 80 Tryd.underlying22 hi hz0 hz1 hz2 rfl (by decide) _ 1 (rawsCells rs) (by rfl) HOWN.out ⟨w8.heap.size, 0, none⟩ 1 1 (rawCells ⟨ca, cf, cp, .slice cpa cnp cpc, ck, .slice cfa cnf cfc⟩) (by rfl) rfl (World.news_of_block (heap_alloc_new w8 _)) ?k2 (by omega) ?k3 ?k4 ?k5 (w8.heap.size + 1) (alloc_hs _ _) ?_
                    case k2 => intro x hx; simp only [rawCells, List.mem_cons, List.not_mem_nil, or_false] at hx; rcases hx with rfl | rfl | rfl | rfl | rfl | rfl <;> rfl
                    case k3 => unfold maxLen; omega
                    case k4 => omega
                    case k5 => rw [alloc_hs]; have := HML7.out _ HM4G.out; have := HB8.out.size; omega
                    intro gg cap w9 hown9 hgrow9 hlies9 hlt9
                    have hrow9 : RowT M G4 w9 (.slice (some ⟨gg, 0, none⟩) (1 + 1) cap) ([j1] ++ [j2]) := by
                      have h2 : RawOf w8 (fun x => Lo M w8 x ∧ (Value.slice (some ⟨G4, 0, none⟩) 1 1).ownBlock ≠ some x) ⟨ca, cf, cp, .slice cpa cnp cpc, ck, .slice cfa cnf cfc⟩ j2 := HDR.out.mono (fun x h => ⟨⟨h.1, fun e => h.2 (HM4M.out x e)⟩, fun e => h.2 (by simp only [Value.ownBlock, Option.some.injEq] at e; rw [← e]; exact HM4G.out)⟩) fun _ _ _ => rfl
                      exact rowt_push (l := [j1]) HRAW.out h2 hgrow9 hlies9 hown9
                    have hG8 : G4 < w8.heap.size := by have := HML7.out _ HM4G.out; have := HB8.out.size; omega
                    have hb89 : Below G4 (w8.alloc (.cells #[.bool ca, .int .i64 cf, .int .i64 cp, .slice cpa cnp cpc, .int .i64 ck, .slice cfa cnf cfc] 24)) w9 := (Below.refl G4 _).grown hgrow9 (by rw [alloc_hs]; omega) (fun k hk => by simp only [Value.ownBlock, Option.some.injEq] at hk; omega)
                    have hst9 : Stay (· = G4) (w8.alloc (.cells #[.bool ca, .int .i64 cf, .int .i64 cp, .slice cpa cnp cpc, .int .i64 ck, .slice cfa cnf cfc] 24)) w9 := Stay.of_grown hgrow9 hb89 (fun k hk => by simp only [Value.ownBlock, Option.some.injEq] at hk; omega)
                    have hst : Stay (· = G4) W7 w9 := (Stay.of (HB8.out.trans ((Below.refl _ _).alloc HB8.out.size _))).trans hst9
                    have hm9 : ∀ x, x = G4 → M4 x := fun x h => by rw [h]; exact HM4G.out
                    have hq : BoxAt W7 g false F xp (.slice pa np pc) xn (.slice fa nf fc) ∧ BoxAt W7 (g + 1) false G yp (.slice qa mp qc) yn (.slice ga mf gc) ∧ BoxAt W7 gr false 0 0 (.slice none 0 0) 0 (.slice none 0 0) ∧ BoxAt W7 go false s 1 (.slice (some ⟨G4, 0, none⟩) 1 1) 0 (.slice none 0 0) ∧ Below w.heap.size w W7 ∧ W.heap.size ≤ W7.heap.size := by
                      have h := HJ7.out
                      rw [HJR.out] at h
                      exact ⟨h.1, h.2.1, h.2.2.1, h.2.2.2.1, h.2.2.2.2.1, h.2.2.2.2.2.1⟩
                    obtain ⟨va', vb', vr', vo', hbw, hws⟩ := hq
                    have hl := HGL.out
                    have va9 := va'.stay hst (by omega)
                    have vb9 := vb'.stay hst (by omega)
                    have vr9 := vr'.stay hst (by omega)
                    have vo9 := vo'.stay hst (by omega)
                    have hbw9 : Below w.heap.size w w9 := hbw.trans ((hst.below (B := G4) (by have := HML7.out _ HM4G.out; omega) (fun k hk => by omega)).mono (by have := HGE.out; omega))
                    have HFIN9 := Lib.hid (show JR (w9.setCell ⟨go, 3, none⟩ (.slice (some ⟨gg, 0, none⟩) (1 + 1) cap)) s 1 (.slice (some ⟨gg, 0, none⟩) (1 + 1) cap) ([j1] ++ [j2]) 0 (.slice none 0 0) [] by
                      have hd := hrow9.done (fun x h => HML4.out x h |> fun h => by rw [HG4.out]; exact h) (by unfold maxLen; simp)
                      have f : ∀ {v : Value} {t : Ty}, TyVN M4 W7 v t → TyVN M (w9.setCell ⟨go, 3, none⟩ (.slice (some ⟨gg, 0, none⟩) (1 + 1) cap)) v t := fun h => ((h.stay (hst.mono hm9)).mono fun x _ h => HM4M.out x h).set ⟨go, 3, none⟩ HM3.out _
                      have f2 : ∀ {v : Value} {l : List Ty}, TyS W7 (Lo M4 W7) v l → TyS (w9.setCell ⟨go, 3, none⟩ (.slice (some ⟨gg, 0, none⟩) (1 + 1) cap)) (Lo M (w9.setCell ⟨go, 3, none⟩ (.slice (some ⟨gg, 0, none⟩) (1 + 1) cap))) v l := fun h => TySN.set (TySN.mono (TySN.stay h (hst.mono hm9)) fun x _ h => HM4M.out x h) ⟨go, 3, none⟩ HM3.out _
                      rw [HJR.out]
                      exact ⟨va9.o NEa.out, vb9.o NEb.out, vr9.o NEr.out, vo9.s3, hbw9.setCell (p := ⟨go, 3, none⟩) HGE.out _, by have := hst.size; simp [World.setCell]; omega, f HA7.out, f HB7.out, ⟨f2 HU17.out, f2 HU27.out, f2 HU37.out, f2 HU47.out⟩, TySN.set hd ⟨go, 3, none⟩ HM3.out _, .mkNil _ _⟩)
                    replace HKU := Lib.hid (HKU.out.stay hst9 (by have := HGU.out; omega))
                    replace HKV := Lib.hid (HKV.out.stay hst9 (by have := HGV2.out; omega))
                    have qo3 := vo9.c3
                    have zo3 := vo9.fr 3
                    have tlo := vo9.lt
                    clear hrow9 hG8 hb89 hst9 hst hm9 va' vb' vr' vo' hbw hws hl va9 vb9 vr9 vo9 hbw9 hown9 hgrow9 hlies9 hlt9
                    clear hHeld
                    refine hK.out _ _ (by (try dsimp only); exact ⟨HKU.out.c0, HKU.out.c1, HKU.out.c2, HKU.out.c3, HKU.out.c4, HKU.out.c5, HKV.out.c0, HKV.out.c1, HKV.out.c2, HKV.out.c3, HKV.out.c4, HKV.out.c5⟩) (fun hHeld => ?_)
                    clear hK K
                    (try simp only [Act.put, List.setIfInBounds_toArray, List.set_cons_zero, List.set_cons_succ])
                    refine' take_any 7 110 (v := _) ?hi25 ?hd25 (by kernel_rfl) (by kernel_rfl) (by kernel_rfl) (fun _ _ _ h => h) ?hy25 hHeld ?hr25
                    case hi25 => (simp only [List.getElem?_toArray, List.getElem?_cons_succ, List.getElem?_cons_zero]; rfl)
                    case hd25 => rfl
                    case hy25 =>
                      refine' Or.inl ⟨?hw25, ?hx25⟩
                      case hw25 => rfl
                      case hx25 => (intro w hSw; (try dsimp only at hSw); go_simp; (try with_reducible rfl))
                    (try simp only [Act.put, List.setIfInBounds_toArray, List.set_cons_zero, List.set_cons_succ])
                    refine' take_call 8 ?hi26 (by kernel_rfl) ?hr26
                    case hi26 => (simp only [List.getElem?_toArray, List.getElem?_cons_succ, List.getElem?_cons_zero]; rfl)
                    intro K hK
                    go_simp
                    replace HKU := Lib.hid (HKU.out.o (m := go) (i := 3) (x := .slice (some ⟨gg, 0, none⟩) (1 + 1) cap) HGUV.out.1)
                    replace HKV := Lib.hid (HKV.out.o (m := go) (i := 3) (x := .slice (some ⟨gg, 0, none⟩) (1 + 1) cap) HGUV.out.2)
                    clear hHeld
                    refine hK.out _ _ (by (try dsimp only); exact ⟨HKU.out.c0, HKU.out.c1, HKU.out.c2, HKU.out.c3, HKU.out.c4, HKU.out.c5, HKV.out.c0, HKV.out.c1, HKV.out.c2, HKV.out.c3, HKV.out.c4, HKV.out.c5⟩) (fun hHeld => ?_)
                    clear hK K
                    (try simp only [Act.put, List.setIfInBounds_toArray, List.set_cons_zero, List.set_cons_succ])
                    refine wpAnyH_done (by kernel_rfl) ?_ _
                    refine NoPanic.normal ?_
                    clear qo3 zo3 tlo hHeld
                    go_wp2
                    go_meet
                    case rel => exact ⟨_, Lib.hid (by rw [X1.out, X2.out]; exact HFIN9.out)⟩
                  case hb36 =>
                    intro K hK
                    go_simp
                    go_at_call 19
                    refine HCC.out.mono ?_
                    rintro e w8 ⟨⟨v, rfl, hv⟩, hb0⟩
                    obtain ⟨ca, cf, cp, cpa, cnp, cpc, ck, cfa, cnf, cfc, rfl⟩ := hv.shape
                    have hb : Below W7.heap.size W7 w8 := (Below.refl _ _).drew.trans hb0
                    replace HKU := Lib.hid (HKU.out.keep hb0)
                    replace HKV := Lib.hid (HKV.out.keep hb0)
                    replace HKO := Lib.hid (HKO.out.keep hb0)
                    have qo3 := HKO.out.c3
                    obtain ⟨i0, hi, hz0, hz1, hz2⟩ := info_parts Tryd.infoTy
                    have hdr := hv.raw
                    obtain ⟨rs, hown, hraw⟩ := HROW7.out.below hb
                    have HDR := Lib.hid hdr
                    have HRAW := Lib.hid hraw
                    have HOWN := Lib.hid (hown.alloc (.cells #[.bool ca, .int .i64 cf, .int .i64 cp, .slice cpa cnp cpc, .int .i64 ck, .slice cfa cnf cfc] 24))
                    have HB8 := Lib.hid hb
                    have HK8 := Lib.hid (show go < w8.heap.size by have := HGL.out; have := HML7.out _ HM4G.out; have := hb.size; omega)
                    clear hdr hown hraw hb hb0 hv HCC
                    go_wp2_with fail
                    clear hHeld
                    refine hK.out _ _ (by (try dsimp only); exact ⟨HKU.out.c0, HKU.out.c1, HKU.out.c2, HKU.out.c3, HKU.out.c4, HKU.out.c5, HKV.out.c0, HKV.out.c1, HKV.out.c2, HKV.out.c3, HKV.out.c4, HKV.out.c5⟩) (fun hHeld => ?_)
                    clear hK K
                    (try simp only [Act.put, List.setIfInBounds_toArray, List.set_cons_zero, List.set_cons_succ])
                    refine' take_two 1 5 ?hi35 ?hj35 (by kernel_rfl) ?ha35 ?hb35
                    case hi35 => (simp only [List.getElem?_toArray, List.getElem?_cons_succ, List.getElem?_cons_zero]; rfl)
                    case hj35 => (simp only [List.getElem?_toArray, List.getElem?_cons_succ, List.getElem?_cons_zero]; rfl)
                    case ha35 =>
                      intro K hK
                      go_simp
                      go_wp2_with fail
                      clear hHeld
                      refine hK.out _ _ (by (try dsimp only); exact ⟨HKU.out.c0, HKU.out.c1, HKU.out.c2, HKU.out.c3, HKU.out.c4, HKU.out.c5, HKV.out.c0, HKV.out.c1, HKV.out.c2, HKV.out.c3, HKV.out.c4, HKV.out.c5⟩) (fun hHeld => ?_)
                      clear hK K
                      (try simp only [Act.put, List.setIfInBounds_toArray, List.set_cons_zero, List.set_cons_succ])
                      refine' take_call 5 ?hi27 (by kernel_rfl) ?hr27
                      case hi27 => (simp only [List.getElem?_toArray, List.getElem?_cons_succ, List.getElem?_cons_zero]; rfl)
                      intro K hK
                      go_simp
                      have hba : Below w8.heap.size w8 (w8.alloc (.cells #[.bool ca, .int .i64 cf, .int .i64 cp, .slice cpa cnp cpc, .int .i64 ck, .slice cfa cnf cfc] 24)) := (Below.refl _ _).alloc (Nat.le_refl _) _
                      replace HKU := Lib.hid (HKU.out.keep hba)
                      replace HKV := Lib.hid (HKV.out.keep hba)
                      replace HKO := Lib.hid (HKO.out.keep hba)
                      have qo3 := HKO.out.c3
                      clear hba
                      clear hHeld
                      refine hK.out _ _ (by (try dsimp only); exact ⟨HKU.out.c0, HKU.out.c1, HKU.out.c2, HKU.out.c3, HKU.out.c4, HKU.out.c5, HKV.out.c0, HKV.out.c1, HKV.out.c2, HKV.out.c3, HKV.out.c4, HKV.out.c5⟩) (fun hHeld => ?_)
                      clear hK K
                      (try simp only [Act.put, List.setIfInBounds_toArray, List.set_cons_zero, List.set_cons_succ])
                      refine' take_call 6 ?hi28 (by kernel_rfl) ?hr28
                      case hi28 => (simp only [List.getElem?_toArray, List.getElem?_cons_succ, List.getElem?_cons_zero]; rfl)
                      intro K hK
                      refine step_append_lies _ (by rfl) (.tmp 104) (.tmp 108) 22 (by rfl) G4 24 i0 (.agg #[.bool false, .int .i64 0, .int .i64 0, .slice none 0 0, .int .i64 0, .slice none 0 0]) 6 80 Tryd.underlying22 hi hz0 hz1 hz2 rfl (by decide) _ 1 (rawsCells rs) (by rfl) HOWN.out ⟨w8.heap.size, 0, none⟩ 1 1 (rawCells ⟨ca, cf, cp, .slice cpa cnp cpc, ck, .slice cfa cnf cfc⟩) (by rfl) rfl (World.news_of_block (heap_alloc_new w8 _)) ?k2 (by omega) ?k3 ?k4 ?k5 (w8.heap.size + 1) (alloc_hs _ _) ?_
                      case k2 => intro x hx; simp only [rawCells, List.mem_cons, List.not_mem_nil, or_false] at hx; rcases hx with rfl | rfl | rfl | rfl | rfl | rfl <;> rfl
                      case k3 => unfold maxLen; omega
                      case k4 => omega
                      case k5 => rw [alloc_hs]; have := HML7.out _ HM4G.out; have := HB8.out.size; omega
                      intro gg cap w9 hown9 hgrow9 hlies9 hlt9
                      have hrow9 : RowT M G4 w9 (.slice (some ⟨gg, 0, none⟩) (1 + 1) cap) ([j1] ++ [j2]) := by
                        have h2 : RawOf w8 (fun x => Lo M w8 x ∧ (Value.slice (some ⟨G4, 0, none⟩) 1 1).ownBlock ≠ some x) ⟨ca, cf, cp, .slice cpa cnp cpc, ck, .slice cfa cnf cfc⟩ j2 := HDR.out.mono (fun x h => ⟨⟨h.1, fun e => h.2 (HM4M.out x e)⟩, fun e => h.2 (by simp only [Value.ownBlock, Option.some.injEq] at e; rw [← e]; exact HM4G.out)⟩) fun _ _ _ => rfl
                        exact rowt_push (l := [j1]) HRAW.out h2 hgrow9 hlies9 hown9
                      have hG8 : G4 < w8.heap.size := by have := HML7.out _ HM4G.out; have := HB8.out.size; omega
                      have hb89 : Below G4 (w8.alloc (.cells #[.bool ca, .int .i64 cf, .int .i64 cp, .slice cpa cnp cpc, .int .i64 ck, .slice cfa cnf cfc] 24)) w9 := (Below.refl G4 _).grown hgrow9 (by rw [alloc_hs]; omega) (fun k hk => by simp only [Value.ownBlock, Option.some.injEq] at hk; omega)
                      have hst9 : Stay (· = G4) (w8.alloc (.cells #[.bool ca, .int .i64 cf, .int .i64 cp, .slice cpa cnp cpc, .int .i64 ck, .slice cfa cnf cfc] 24)) w9 := Stay.of_grown hgrow9 hb89 (fun k hk => by simp only [Value.ownBlock, Option.some.injEq] at hk; omega)
                      have hst : Stay (· = G4) W7 w9 := (Stay.of (HB8.out.trans ((Below.refl _ _).alloc HB8.out.size _))).trans hst9
                      have hm9 : ∀ x, x = G4 → M4 x := fun x h => by rw [h]; exact HM4G.out
                      have hq : BoxAt W7 g false F xp (.slice pa np pc) xn (.slice fa nf fc) ∧ BoxAt W7 (g + 1) false G yp (.slice qa mp qc) yn (.slice ga mf gc) ∧ BoxAt W7 gr false 0 0 (.slice none 0 0) 0 (.slice none 0 0) ∧ BoxAt W7 go false s 1 (.slice (some ⟨G4, 0, none⟩) 1 1) 0 (.slice none 0 0) ∧ Below w.heap.size w W7 ∧ W.heap.size ≤ W7.heap.size := by
                        have h := HJ7.out
                        rw [HJR.out] at h
                        exact ⟨h.1, h.2.1, h.2.2.1, h.2.2.2.1, h.2.2.2.2.1, h.2.2.2.2.2.1⟩
                      obtain ⟨va', vb', vr', vo', hbw, hws⟩ := hq
                      have hl := HGL.out
                      have va9 := va'.stay hst (by omega)
                      have vb9 := vb'.stay hst (by omega)
                      have vr9 := vr'.stay hst (by omega)
                      have vo9 := vo'.stay hst (by omega)
                      have hbw9 : Below w.heap.size w w9 := hbw.trans ((hst.below (B := G4) (by have := HML7.out _ HM4G.out; omega) (fun k hk => by omega)).mono (by have := HGE.out; omega))
                      have HFIN9 := Lib.hid (show JR (w9.setCell ⟨go, 3, none⟩ (.slice (some ⟨gg, 0, none⟩) (1 + 1) cap)) s 1 (.slice (some ⟨gg, 0, none⟩) (1 + 1) cap) ([j1] ++ [j2]) 0 (.slice none 0 0) [] by
                        have hd := hrow9.done (fun x h => HML4.out x h |> fun h => by rw [HG4.out]; exact h) (by unfold maxLen; simp)
                        have f : ∀ {v : Value} {t : Ty}, TyVN M4 W7 v t → TyVN M (w9.setCell ⟨go, 3, none⟩ (.slice (some ⟨gg, 0, none⟩) (1 + 1) cap)) v t := fun h => ((h.stay (hst.mono hm9)).mono fun x _ h => HM4M.out x h).set ⟨go, 3, none⟩ HM3.out _
                        have f2 : ∀ {v : Value} {l : List Ty}, TyS W7 (Lo M4 W7) v l → TyS (w9.setCell ⟨go, 3, none⟩ (.slice (some ⟨gg, 0, none⟩) (1 + 1) cap)) (Lo M (w9.setCell ⟨go, 3, none⟩ (.slice (some ⟨gg, 0, none⟩) (1 + 1) cap))) v l := fun h => TySN.set (TySN.mono (TySN.stay h (hst.mono hm9)) fun x _ h => HM4M.out x h) ⟨go, 3, none⟩ HM3.out _
                        rw [HJR.out]
                        exact ⟨va9.o NEa.out, vb9.o NEb.out, vr9.o NEr.out, vo9.s3, hbw9.setCell (p := ⟨go, 3, none⟩) HGE.out _, by have := hst.size; simp [World.setCell]; omega, f HA7.out, f HB7.out, ⟨f2 HU17.out, f2 HU27.out, f2 HU37.out, f2 HU47.out⟩, TySN.set hd ⟨go, 3, none⟩ HM3.out _, .mkNil _ _⟩)
                      replace HKU := Lib.hid (HKU.out.stay hst9 (by have := HGU.out; omega))
                      replace HKV := Lib.hid (HKV.out.stay hst9 (by have := HGV2.out; omega))
                      have qo3 := vo9.c3
                      have zo3 := vo9.fr 3
                      have tlo := vo9.lt
                      clear hrow9 hG8 hb89 hst9 hst hm9 va' vb' vr' vo' hbw hws hl va9 vb9 vr9 vo9 hbw9 hown9 hgrow9 hlies9 hlt9
                      clear hHeld
                      refine hK.out _ _ (by (try dsimp only); exact ⟨HKU.out.c0, HKU.out.c1, HKU.out.c2, HKU.out.c3, HKU.out.c4, HKU.out.c5, HKV.out.c0, HKV.out.c1, HKV.out.c2, HKV.out.c3, HKV.out.c4, HKV.out.c5⟩) (fun hHeld => ?_)
                      clear hK K
                      (try simp only [Act.put, List.setIfInBounds_toArray, List.set_cons_zero, List.set_cons_succ])
                      refine' take_any 7 110 (v := _) ?hi29 ?hd29 (by kernel_rfl) (by kernel_rfl) (by kernel_rfl) (fun _ _ _ h => h) ?hy29 hHeld ?hr29
                      case hi29 => (simp only [List.getElem?_toArray, List.getElem?_cons_succ, List.getElem?_cons_zero]; rfl)
                      case hd29 => rfl
                      case hy29 =>
                        refine' Or.inl ⟨?hw29, ?hx29⟩
                        case hw29 => rfl
                        case hx29 => (intro w hSw; (try dsimp only at hSw); go_simp; (try with_reducible rfl))
                      (try simp only [Act.put, List.setIfInBounds_toArray, List.set_cons_zero, List.set_cons_succ])
                      refine' take_call 8 ?hi30 (by kernel_rfl) ?hr30
                      case hi30 => (simp only [List.getElem?_toArray, List.getElem?_cons_succ, List.getElem?_cons_zero]; rfl)
                      intro K hK
                      go_simp
                      replace HKU := Lib.hid (HKU.out.o (m := go) (i := 3) (x := .slice (some ⟨gg, 0, none⟩) (1 + 1) cap) HGUV.out.1)
                      replace HKV := Lib.hid (HKV.out.o (m := go) (i := 3) (x := .slice (some ⟨gg, 0, none⟩) (1 + 1) cap) HGUV.out.2)
                      clear hHeld
                      refine hK.out _ _ (by (try dsimp only); exact ⟨HKU.out.c0, HKU.out.c1, HKU.out.c2, HKU.out.c3, HKU.out.c4, HKU.out.c5, HKV.out.c0, HKV.out.c1, HKV.out.c2, HKV.out.c3, HKV.out.c4, HKV.out.c5⟩) (fun hHeld => ?_)
                      clear hK K
                      (try simp only [Act.put, List.setIfInBounds_toArray, List.set_cons_zero, List.set_cons_succ])
                      refine wpAnyH_done (by kernel_rfl) ?_ _
                      refine NoPanic.normal ?_
                      clear qo3 zo3 tlo hHeld
                      go_wp2
                      go_meet
                      case rel => exact ⟨_, Lib.hid (by rw [X1.out, X2.out]; exact HFIN9.out)⟩
                    case hb35 =>
                      intro K hK
                      go_simp
                      have hba : Below w8.heap.size w8 (w8.alloc (.cells #[.bool ca, .int .i64 cf, .int .i64 cp, .slice cpa cnp cpc, .int .i64 ck, .slice cfa cnf cfc] 24)) := (Below.refl _ _).alloc (Nat.le_refl _) _
                      replace HKU := Lib.hid (HKU.out.keep hba)
                      replace HKV := Lib.hid (HKV.out.keep hba)
                      replace HKO := Lib.hid (HKO.out.keep hba)
                      have qo3 := HKO.out.c3
                      clear hba
                      clear hHeld
                      refine hK.out _ _ (by (try dsimp only); exact ⟨HKU.out.c0, HKU.out.c1, HKU.out.c2, HKU.out.c3, HKU.out.c4, HKU.out.c5, HKV.out.c0, HKV.out.c1, HKV.out.c2, HKV.out.c3, HKV.out.c4, HKV.out.c5⟩) (fun hHeld => ?_)
                      clear hK K
                      (try simp only [Act.put, List.setIfInBounds_toArray, List.set_cons_zero, List.set_cons_succ])
                      refine' take_call 1 ?hi31 (by kernel_rfl) ?hr31
                      case hi31 => (simp only [List.getElem?_toArray, List.getElem?_cons_succ, List.getElem?_cons_zero]; rfl)
                      intro K hK
                      go_simp
                      go_wp2_with fail
                      clear hHeld
                      refine hK.out _ _ (by (try dsimp only); exact ⟨HKU.out.c0, HKU.out.c1, HKU.out.c2, HKU.out.c3, HKU.out.c4, HKU.out.c5, HKV.out.c0, HKV.out.c1, HKV.out.c2, HKV.out.c3, HKV.out.c4, HKV.out.c5⟩) (fun hHeld => ?_)
                      clear hK K
                      (try simp only [Act.put, List.setIfInBounds_toArray, List.set_cons_zero, List.set_cons_succ])
                      refine' take_call 6 ?hi32 (by kernel_rfl) ?hr32
                      case hi32 => (simp only [List.getElem?_toArray, List.getElem?_cons_succ, List.getElem?_cons_zero]; rfl)
                      intro K hK
                      refine step_append_lies _ (by rfl) (.tmp 104) (.tmp 108) 22 (by rfl) G4 24 i0 (.agg #[.bool false, .int .i64 0, .int .i64 0, .slice none 0 0, .int .i64 0, .slice none 0 0]) 6 80 Tryd.underlying22 hi hz0 hz1 hz2 rfl (by decide) _ 1 (rawsCells rs) (by rfl) HOWN.out ⟨w8.heap.size, 0, none⟩ 1 1 (rawCells ⟨ca, cf, cp, .slice cpa cnp cpc, ck, .slice cfa cnf cfc⟩) (by rfl) rfl (World.news_of_block (heap_alloc_new w8 _)) ?k2 (by omega) ?k3 ?k4 ?k5 (w8.heap.size + 1) (alloc_hs _ _) ?_
                      case k2 => intro x hx; simp only [rawCells, List.mem_cons, List.not_mem_nil, or_false] at hx; rcases hx with rfl | rfl | rfl | rfl | rfl | rfl <;> rfl
                      case k3 => unfold maxLen; omega
                      case k4 => omega
                      case k5 => rw [alloc_hs]; have := HML7.out _ HM4G.out; have := HB8.out.size; omega
                      intro gg cap w9 hown9 hgrow9 hlies9 hlt9
                      have hrow9 : RowT M G4 w9 (.slice (some ⟨gg, 0, none⟩) (1 + 1) cap) ([j1] ++ [j2]) := by
                        have h2 : RawOf w8 (fun x => Lo M w8 x ∧ (Value.slice (some ⟨G4, 0, none⟩) 1 1).ownBlock ≠ some x) ⟨ca, cf, cp, .slice cpa cnp cpc, ck, .slice cfa cnf cfc⟩ j2 := HDR.out.mono (fun x h => ⟨⟨h.1, fun e => h.2 (HM4M.out x e)⟩, fun e => h.2 (by simp only [Value.ownBlock, Option.some.injEq] at e; rw [← e]; exact HM4G.out)⟩) fun _ _ _ => rfl
                        exact rowt_push (l := [j1]) HRAW.out h2 hgrow9 hlies9 hown9
                      have hG8 : G4 < w8.heap.size := by have := HML7.out _ HM4G.out; have := HB8.out.size; omega
                      have hb89 : Below G4 (w8.alloc (.cells #[.bool ca, .int .i64 cf, .int .i64 cp, .slice cpa cnp cpc, .int .i64 ck, .slice cfa cnf cfc] 24)) w9 := (Below.refl G4 _).grown hgrow9 (by rw [alloc_hs]; omega) (fun k hk => by simp only [Value.ownBlock, Option.some.injEq] at hk; omega)
                      have hst9 : Stay (· = G4) (w8.alloc (.cells #[.bool ca, .int .i64 cf, .int .i64 cp, .slice cpa cnp cpc, .int .i64 ck, .slice cfa cnf cfc] 24)) w9 := Stay.of_grown hgrow9 hb89 (fun k hk => by simp only [Value.ownBlock, Option.some.injEq] at hk; omega)
                      have hst : Stay (· = G4) W7 w9 := (Stay.of (HB8.out.trans ((Below.refl _ _).alloc HB8.out.size _))).trans hst9
                      have hm9 : ∀ x, x = G4 → M4 x := fun x h => by rw [h]; exact HM4G.out
                      have hq : BoxAt W7 g false F xp (.slice pa np pc) xn (.slice fa nf fc) ∧ BoxAt W7 (g + 1) false G yp (.slice qa mp qc) yn (.slice ga mf gc) ∧ BoxAt W7 gr false 0 0 (.slice none 0 0) 0 (.slice none 0 0) ∧ BoxAt W7 go false s 1 (.slice (some ⟨G4, 0, none⟩) 1 1) 0 (.slice none 0 0) ∧ Below w.heap.size w W7 ∧ W.heap.size ≤ W7.heap.size := by
                        have h := HJ7.out
                        rw [HJR.out] at h
                        exact ⟨h.1, h.2.1, h.2.2.1, h.2.2.2.1, h.2.2.2.2.1, h.2.2.2.2.2.1⟩
                      obtain ⟨va', vb', vr', vo', hbw, hws⟩ := hq
                      have hl := HGL.out
                      have va9 := va'.stay hst (by omega)
                      have vb9 := vb'.stay hst (by omega)
                      have vr9 := vr'.stay hst (by omega)
                      have vo9 := vo'.stay hst (by omega)
                      have hbw9 : Below w.heap.size w w9 := hbw.trans ((hst.below (B := G4) (by have := HML7.out _ HM4G.out; omega) (fun k hk => by omega)).mono (by have := HGE.out; omega))
                      have HFIN9 := Lib.hid (show JR (w9.setCell ⟨go, 3, none⟩ (.slice (some ⟨gg, 0, none⟩) (1 + 1) cap)) s 1 (.slice (some ⟨gg, 0, none⟩) (1 + 1) cap) ([j1] ++ [j2]) 0 (.slice none 0 0) [] by
                        have hd := hrow9.done (fun x h => HML4.out x h |> fun h => by rw [HG4.out]; exact h) (by unfold maxLen; simp)
                        have f : ∀ {v : Value} {t : Ty}, TyVN M4 W7 v t → TyVN M (w9.setCell ⟨go, 3, none⟩ (.slice (some ⟨gg, 0, none⟩) (1 + 1) cap)) v t := fun h => ((h.stay (hst.mono hm9)).mono fun x _ h => HM4M.out x h).set ⟨go, 3, none⟩ HM3.out _
                        have f2 : ∀ {v : Value} {l : List Ty}, TyS W7 (Lo M4 W7) v l → TyS (w9.setCell ⟨go, 3, none⟩ (.slice (some ⟨gg, 0, none⟩) (1 + 1) cap)) (Lo M (w9.setCell ⟨go, 3, none⟩ (.slice (some ⟨gg, 0, none⟩) (1 + 1) cap))) v l := fun h => TySN.set (TySN.mono (TySN.stay h (hst.mono hm9)) fun x _ h => HM4M.out x h) ⟨go, 3, none⟩ HM3.out _
                        rw [HJR.out]
                        exact ⟨va9.o NEa.out, vb9.o NEb.out, vr9.o NEr.out, vo9.s3, hbw9.setCell (p := ⟨go, 3, none⟩) HGE.out _, by have := hst.size; simp [World.setCell]; omega, f HA7.out, f HB7.out, ⟨f2 HU17.out, f2 HU27.out, f2 HU37.out, f2 HU47.out⟩, TySN.set hd ⟨go, 3, none⟩ HM3.out _, .mkNil _ _⟩)
                      replace HKU := Lib.hid (HKU.out.stay hst9 (by have := HGU.out; omega))
                      replace HKV := Lib.hid (HKV.out.stay hst9 (by have := HGV2.out; omega))
                      have qo3 := vo9.c3
                      have zo3 := vo9.fr 3
                      have tlo := vo9.lt
                      clear hrow9 hG8 hb89 hst9 hst hm9 va' vb' vr' vo' hbw hws hl va9 vb9 vr9 vo9 hbw9 hown9 hgrow9 hlies9 hlt9
                      clear hHeld
                      refine hK.out _ _ (by (try dsimp only); exact ⟨HKU.out.c0, HKU.out.c1, HKU.out.c2, HKU.out.c3, HKU.out.c4, HKU.out.c5, HKV.out.c0, HKV.out.c1, HKV.out.c2, HKV.out.c3, HKV.out.c4, HKV.out.c5⟩) (fun hHeld => ?_)
                      clear hK K
                      (try simp only [Act.put, List.setIfInBounds_toArray, List.set_cons_zero, List.set_cons_succ])
                      refine' take_any 7 110 (v := _) ?hi33 ?hd33 (by kernel_rfl) (by kernel_rfl) (by kernel_rfl) (fun _ _ _ h => h) ?hy33 hHeld ?hr33
                      case hi33 => (simp only [List.getElem?_toArray, List.getElem?_cons_succ, List.getElem?_cons_zero]; rfl)
                      case hd33 => rfl
                      case hy33 =>
                        refine' Or.inl ⟨?hw33, ?hx33⟩
                        case hw33 => rfl
                        case hx33 => (intro w hSw; (try dsimp only at hSw); go_simp; (try with_reducible rfl))
                      (try simp only [Act.put, List.setIfInBounds_toArray, List.set_cons_zero, List.set_cons_succ])
                      refine' take_call 8 ?hi34 (by kernel_rfl) ?hr34
                      case hi34 => (simp only [List.getElem?_toArray, List.getElem?_cons_succ, List.getElem?_cons_zero]; rfl)
                      intro K hK
                      go_simp
                      replace HKU := Lib.hid (HKU.out.o (m := go) (i := 3) (x := .slice (some ⟨gg, 0, none⟩) (1 + 1) cap) HGUV.out.1)
                      replace HKV := Lib.hid (HKV.out.o (m := go) (i := 3) (x := .slice (some ⟨gg, 0, none⟩) (1 + 1) cap) HGUV.out.2)
                      clear hHeld
                      refine hK.out _ _ (by (try dsimp only); exact ⟨HKU.out.c0, HKU.out.c1, HKU.out.c2, HKU.out.c3, HKU.out.c4, HKU.out.c5, HKV.out.c0, HKV.out.c1, HKV.out.c2, HKV.out.c3, HKV.out.c4, HKV.out.c5⟩) (fun hHeld => ?_)
                      clear hK K
                      (try simp only [Act.put, List.setIfInBounds_toArray, List.set_cons_zero, List.set_cons_succ])
                      refine wpAnyH_done (by kernel_rfl) ?_ _
                      refine NoPanic.normal ?_
                      clear qo3 zo3 tlo hHeld
                      go_wp2
                      go_meet
                      case rel => exact ⟨_, Lib.hid (by rw [X1.out, X2.out]; exact HFIN9.out)⟩
              · have d1 : (xp == 1) = false := beq_false_of_ne fun h => one (.inl h)
                have d2 : (yp == 1) = false := beq_false_of_ne fun h => one (.inr h)
                have e1 : P = p1 := by rw [HPP.out, if_neg one, HP1.out]
                have e2 : PS = [j1] := by rw [HPS.out, if_neg one, HJ1.out]
                have X1 := Lib.hid e1
                have X2 := Lib.hid e2
                clear e1 e2 one
                go_wp2
                go_meet
                case rel => exact ⟨_, Lib.hid (by rw [X1.out, X2.out]; exact HJ42.out)⟩
            | false =>
              have h0 : ¬ (xp ≠ 0 ∧ yp ≠ 0) := of_decide_eq_false HBOTH.out.symm
              have e1 : P = p1 := by
                rw [EP.out, Ep1.out]
                by_cases x0 : xp = 0
                · rw [if_pos x0, if_pos x0]
                · have y0 : yp = 0 := Classical.byContradiction fun h => h0 ⟨x0, h⟩
                  rw [if_neg x0, if_pos y0, if_neg x0]
              have e2 : PS = ps1 := by
                rw [EPS.out, Eps1.out]
                by_cases x0 : xp = 0
                · rw [if_pos x0, if_pos x0]
                · have y0 : yp = 0 := Classical.byContradiction fun h => h0 ⟨x0, h⟩
                  rw [if_neg x0, if_pos y0, if_neg x0]
              have X1 := Lib.hid e1
              have X2 := Lib.hid e2
              clear e1 e2 h0
              go_wp2
              go_meet
              case rel => exact ⟨_, Lib.hid (by rw [X1.out, X2.out]; exact HJR3.out)⟩
          case rest =>
            obtain ⟨pv2, HJR4⟩ := hcut
            clear HJR3
            obtain ⟨W7, hW7⟩ : ∃ W7, W7 = wc := ⟨_, rfl⟩
            rw [← hW7] at HJR4 ⊢
            clear hW7
            have hjr := HJR4.out
            rw [HJR.out] at hjr
            obtain ⟨va, vb, vr, vo, hbw, hws, hna, hnb, ⟨hs1, hs2, hs3, hs4⟩, hs5, hs6⟩ := hjr
            have qa4 := va.c4
            have qa5 := va.c5
            have tla := va.lt
            have qo4 := vo.c4
            have qo5 := vo.c5
            have tlo := vo.lt
            have zo4 := vo.fr 4
            have zo5 := vo.fr 5
            have HS1 := Lib.hid hs1
            have HS2 := Lib.hid hs2
            have HS3 := Lib.hid hs3
            have HS4 := Lib.hid hs4
            have HS5 := Lib.hid hs5
            have HS6 := Lib.hid hs6
            have HNA := Lib.hid hna
            have HNB := Lib.hid hnb
            have HVO := Lib.hid vo
            have HVR := Lib.hid vr
            have HVA1 := Lib.hid va
            have HVB1 := Lib.hid vb
            have HBW := Lib.hid hbw
            clear va vb vr vo hbw hws hna hnb hs1 hs2 hs3 hs4 hs5 hs6
            go_upto_if 119 with fail
            obtain ⟨W8, hW8⟩ : ∃ W8, W8 = (W7.setCell ⟨go, 4, none⟩ (.int .i64 xn)).setCell ⟨go, 5, none⟩ (.slice fa nf fc) := ⟨_, rfl⟩
            rw [← hW8]
            have HJR5 := Lib.hid (show JR W8 s P pv2 PS xn (.slice fa nf fc) a.funs by rw [hW8]; exact HJ5.out _ _ _ _ _ _ _ _ _ _ (HJ4.out _ _ _ _ _ _ _ _ xn HJR4.out) (TySN.set HS2.out ⟨go, 4, none⟩ HM3.out _))
            clear qa4 qa5 tla qo4 qo5 tlo zo4 zo5 hW8 HJR4 HS1 HS2 HS3 HS4 HS5 HS6 HNA HNB HVO HVR HVA1 HVB1 HBW
            go_cut [] from 119 to 125 (fun w' => ∃ fv, Hid (JR w' s P pv2 PS k1 fv fs1))
            case first =>
              have hjr := HJR5.out
              rw [HJR.out] at hjr
              obtain ⟨va, vb, vr, vo, hbw, hws, hna, hnb, ⟨hs1, hs2, hs3, hs4⟩, hs5, hs6⟩ := hjr
              have qb4 := vb.c4
              have qb5 := vb.c5
              have tlb := vb.lt
              have qo4 := vo.c4
              have qo5 := vo.c5
              have tlo := vo.lt
              have zo4 := vo.fr 4
              have zo5 := vo.fr 5
              have HS1 := Lib.hid hs1
              have HS2 := Lib.hid hs2
              have HS3 := Lib.hid hs3
              have HS4 := Lib.hid hs4
              have HS5 := Lib.hid hs5
              have HS6 := Lib.hid hs6
              have HNA := Lib.hid hna
              have HNB := Lib.hid hnb
              have HVO := Lib.hid vo
              have HVR := Lib.hid vr
              have HVA1 := Lib.hid va
              have HVB1 := Lib.hid vb
              have HBW := Lib.hid hbw
              clear va vb vr vo hbw hws hna hnb hs1 hs2 hs3 hs4 hs5 hs6
              by_cases x0 : xn = 0
              · have e1 : k1 = yn := by rw [Ek1.out, if_pos x0]
                have e2 : fs1 = b.funs := by rw [Efs1.out, if_pos x0]
                have X1 := Lib.hid e1
                have X2 := Lib.hid e2
                clear e1 e2
                subst x0
                go_wp2
                go_meet
                case rel => exact ⟨_, Lib.hid (by rw [X1.out, X2.out]; exact HJ5.out _ _ _ _ _ _ _ _ _ _ (HJ4.out _ _ _ _ _ _ _ _ yn HJR5.out) (TySN.set HS4.out ⟨go, 4, none⟩ HM3.out _))⟩
              · have e1 : k1 = xn := by rw [Ek1.out, if_neg x0]
                have e2 : fs1 = a.funs := by rw [Efs1.out, if_neg x0]
                have X1 := Lib.hid e1
                have X2 := Lib.hid e2
                have d0 : (xn == 0) = false := beq_false_of_ne x0
                clear e1 e2 x0
                go_wp2
                go_meet
                case rel => exact ⟨_, Lib.hid (by rw [X1.out, X2.out]; exact HJR5.out)⟩
            case rest =>
              obtain ⟨fv1, HJR6⟩ := hcut
              clear HJR5
              obtain ⟨W9, hW9⟩ : ∃ W9, W9 = wc := ⟨_, rfl⟩
              rw [← hW9] at HJR6 ⊢
              clear hW9
              have hva : (∃ a c, pv2 = .slice a PS.length c) ∧ ∃ a c, fv1 = .slice a fs1.length c := by
                have hjr := HJR6.out
                rw [HJR.out] at hjr
                exact ⟨hjr.2.2.2.2.2.2.2.2.2.1.val, hjr.2.2.2.2.2.2.2.2.2.2.val⟩
              obtain ⟨⟨va1, vc1, rfl⟩, va2, vc2, rfl⟩ := hva
              obtain ⟨pl, hpl⟩ : ∃ z, z = PS.length := ⟨_, rfl⟩
              obtain ⟨fl, hfl⟩ : ∃ z, z = fs1.length := ⟨_, rfl⟩
              rw [← hpl, ← hfl] at HJR6
              clear hpl hfl
              have hjr := HJR6.out
              rw [HJR.out] at hjr
              obtain ⟨va, vb, vr, vo, hbw, hws, hna, hnb, ⟨hs1, hs2, hs3, hs4⟩, hs5, hs6⟩ := hjr
              have qa4 := va.c4
              have qa5 := va.c5
              have tla := va.lt
              have qb4 := vb.c4
              have qb5 := vb.c5
              have tlb := vb.lt
              have qo0 := vo.c0
              have qo1 := vo.c1
              have qo2 := vo.c2
              have qo3 := vo.c3
              have qo4 := vo.c4
              have qo5 := vo.c5
              have tlo := vo.lt
              have zo4 := vo.fr 4
              have zo5 := vo.fr 5
              have HS1 := Lib.hid hs1
              have HS2 := Lib.hid hs2
              have HS3 := Lib.hid hs3
              have HS4 := Lib.hid hs4
              have HS5 := Lib.hid hs5
              have HS6 := Lib.hid hs6
              have HNA := Lib.hid hna
              have HNB := Lib.hid hnb
              have HVO := Lib.hid vo
              have HVR := Lib.hid vr
              have HVA1 := Lib.hid va
              have HVB1 := Lib.hid vb
              have HBW := Lib.hid hbw
              clear va vb vr vo hbw hws hna hnb hs1 hs2 hs3 hs4 hs5 hs6
              have qr0 := HVR.out.c0
              have zr0 := HVR.out.fr 0
              have qr1 := HVR.out.c1
              have zr1 := HVR.out.fr 1
              have qr2 := HVR.out.c2
              have zr2 := HVR.out.fr 2
              have qr3 := HVR.out.c3
              have zr3 := HVR.out.fr 3
              have qr4 := HVR.out.c4
              have zr4 := HVR.out.fr 4
              have qr5 := HVR.out.c5
              have zr5 := HVR.out.fr 5
              have tlr := HVR.out.lt
              by_cases x0 : xn = 0
              · as_aux_lemma =>
                  have e1 : K = k1 := by rw [EK.out, Ek1.out, if_pos x0, if_pos x0]
                  have e2 : FS = fs1 := by rw [EFS.out, Efs1.out, if_pos x0, if_pos x0]
                  have hres2 : joinF (n + 1) a b = .mk false s P PS k1 fs1 := by rw [HRES.out, e1, e2]
                  have HRES2 := Lib.hid hres2
                  clear hres2 e1 e2
                  subst x0
                  go_wp2
                  obtain ⟨WF, hWF⟩ : ∃ WF, WF = set6 W9 gr false s P (.slice va1 pl vc1) k1 (.slice va2 fl vc2) := ⟨_, rfl⟩
                  have HBR := Lib.hid (show BoxAt WF gr false s P (.slice va1 pl vc1) k1 (.slice va2 fl vc2) by rw [hWF]; exact HVR.out.set6)
                  have HBF := Lib.hid (show Below w.heap.size w WF by rw [hWF]; exact Below.set6 (g := gr) HBW.out HGE2.out)
                  have HTF := Lib.hid (show TyVN N WF _ (.mk false s P PS k1 fs1) by rw [hWF]; exact TyVN.mono (TyVN.set6 (g := gr) (TyVN.mk (N := M) HS5.out HS6.out) HM2.out) fun x _ h => HMN.out x h)
                  unfold set6 at hWF
                  rw [← hWF]
                  clear hWF
                  refine bodyPost_ret (v := .agg #[.bool false, .int .i64 s, .int .i64 P, .slice va1 pl vc1, .int .i64 k1, (.slice va2 fl vc2)]) ?_ ?_ ?_
                  · have z0 := HBR.out.c0
                    have z1 := HBR.out.c1
                    have z2 := HBR.out.c2
                    have z3 := HBR.out.c3
                    have z4 := HBR.out.c4
                    have z5 := HBR.out.c5
                    simp [results, Tryd.results19, go_sem, z0, z1, z2, z3, z4, z5]
                  · rfl
                  · exact ⟨⟨_, rfl, by rw [HRES2.out]; exact HTF.out⟩, HBF.out⟩
              have d1 : (xn != 0) = true := bne_iff_ne.2 x0
              by_cases y0 : yn = 0
              · as_aux_lemma =>
                  have e1 : K = k1 := by rw [EK.out, Ek1.out, if_neg x0, if_pos y0, if_neg x0]
                  have e2 : FS = fs1 := by rw [EFS.out, Efs1.out, if_neg x0, if_pos y0, if_neg x0]
                  have hres2 : joinF (n + 1) a b = .mk false s P PS k1 fs1 := by rw [HRES.out, e1, e2]
                  have HRES2 := Lib.hid hres2
                  clear hres2 e1 e2
                  subst y0
                  clear x0
                  go_wp2
                  obtain ⟨WF, hWF⟩ : ∃ WF, WF = set6 W9 gr false s P (.slice va1 pl vc1) k1 (.slice va2 fl vc2) := ⟨_, rfl⟩
                  have HBR := Lib.hid (show BoxAt WF gr false s P (.slice va1 pl vc1) k1 (.slice va2 fl vc2) by rw [hWF]; exact HVR.out.set6)
                  have HBF := Lib.hid (show Below w.heap.size w WF by rw [hWF]; exact Below.set6 (g := gr) HBW.out HGE2.out)
                  have HTF := Lib.hid (show TyVN N WF _ (.mk false s P PS k1 fs1) by rw [hWF]; exact TyVN.mono (TyVN.set6 (g := gr) (TyVN.mk (N := M) HS5.out HS6.out) HM2.out) fun x _ h => HMN.out x h)
                  unfold set6 at hWF
                  rw [← hWF]
                  clear hWF
                  refine bodyPost_ret (v := .agg #[.bool false, .int .i64 s, .int .i64 P, .slice va1 pl vc1, .int .i64 k1, (.slice va2 fl vc2)]) ?_ ?_ ?_
                  · have z0 := HBR.out.c0
                    have z1 := HBR.out.c1
                    have z2 := HBR.out.c2
                    have z3 := HBR.out.c3
                    have z4 := HBR.out.c4
                    have z5 := HBR.out.c5
                    simp [results, Tryd.results19, go_sem, z0, z1, z2, z3, z4, z5]
                  · rfl
                  · exact ⟨⟨_, rfl, by rw [HRES2.out]; exact HTF.out⟩, HBF.out⟩
              have d2 : (yn != 0) = true := bne_iff_ne.2 y0
              have hx : TyV W9 _ (.mk false 0 0 [] xn a.funs) := (TyVN.mk (N := M) (a := false) (f := 0) (p := 0) (g := xn) (.mkNil none 0) HS2.out).v
              have hy : TyV W9 _ (.mk false 0 0 [] yn b.funs) := (TyVN.mk (N := M) (a := false) (f := 0) (p := 0) (g := yn) (.mkNil none 0) HS4.out).v
              have hcs := same_any _ _ _ _ W9 hx hy
              obtain ⟨sm, hsm⟩ : ∃ z, sameT (.mk false 0 0 [] xn a.funs) (.mk false 0 0 [] yn b.funs) = z := ⟨_, rfl⟩
              rw [hsm] at hcs
              have HCS := Lib.hid hcs
              have hsame : sm = true ↔ (xn = yn ∧ samesT a.funs b.funs = true) := by
                rw [← hsm, sameT_iff, samesT_eq]
                constructor
                · intro h; injection h with _ _ _ _ h1 h2; exact ⟨h1, h2⟩
                · rintro ⟨h1, h2⟩; rw [h1, h2]
              have k1e : k1 = xn := by rw [Ek1.out, if_neg x0]
              have f1e : fs1 = a.funs := by rw [Efs1.out, if_neg x0]
              have ke : K = if xn = yn ∧ samesT a.funs b.funs = true then xn else 2 := by rw [EK.out, if_neg x0, if_neg y0]
              have fe : FS = if xn = yn ∧ samesT a.funs b.funs = true then a.funs else [] := by rw [EFS.out, if_neg x0, if_neg y0]
              have HSM := Lib.hid hsame
              have HK1 := Lib.hid k1e
              have HF1 := Lib.hid f1e
              have HKE := Lib.hid ke
              have HFE := Lib.hid fe
              clear hx hy hcs hsm hsame k1e f1e ke fe x0 y0
              go_wp2_with fail
              refine HCS.out.mono ?_
              rintro e w8 ⟨rfl, hb8⟩
              clear qa4 qa5 tla qb4 qb5 tlb qo0 qo1 qo2 qo3 qo4 qo5 tlo zo4 zo5 qr0 qr1 qr2 qr3 qr4 qr5 zr0 zr1 zr2 zr3 zr4 zr5 tlr HS1 HS2 HS3 HS4 HS5 HS6 HNA HNB HVO HVR HVA1 HVB1 HBW
              have HJR8 := Lib.hid (HJB.out _ _ _ _ _ _ _ _ _ HJR6.out hb8)
              clear hb8
              cases sm with
              | true =>
                have hyes := HSM.out.1 rfl
                have hres2 : joinF (n + 1) a b = .mk false s P PS k1 fs1 := by rw [HRES.out, HKE.out, HFE.out, if_pos hyes, if_pos hyes, HK1.out, HF1.out]
                have HRES2 := Lib.hid hres2
                clear hres2 hyes
                have hjr := HJR8.out
                rw [HJR.out] at hjr
                obtain ⟨va, vb, vr, vo, hbw, hws, hna, hnb, ⟨hs1, hs2, hs3, hs4⟩, hs5, hs6⟩ := hjr
                have qo0 := vo.c0
                have qo1 := vo.c1
                have qo2 := vo.c2
                have qo3 := vo.c3
                have qo4 := vo.c4
                have qo5 := vo.c5
                have tlo := vo.lt
                have HS1 := Lib.hid hs1
                have HS2 := Lib.hid hs2
                have HS3 := Lib.hid hs3
                have HS4 := Lib.hid hs4
                have HS5 := Lib.hid hs5
                have HS6 := Lib.hid hs6
                have HNA := Lib.hid hna
                have HNB := Lib.hid hnb
                have HVO := Lib.hid vo
                have HVR := Lib.hid vr
                have HVA1 := Lib.hid va
                have HVB1 := Lib.hid vb
                have HBW := Lib.hid hbw
                clear va vb vr vo hbw hws hna hnb hs1 hs2 hs3 hs4 hs5 hs6
                have qr0 := HVR.out.c0
                have zr0 := HVR.out.fr 0
                have qr1 := HVR.out.c1
                have zr1 := HVR.out.fr 1
                have qr2 := HVR.out.c2
                have zr2 := HVR.out.fr 2
                have qr3 := HVR.out.c3
                have zr3 := HVR.out.fr 3
                have qr4 := HVR.out.c4
                have zr4 := HVR.out.fr 4
                have qr5 := HVR.out.c5
                have zr5 := HVR.out.fr 5
                have tlr := HVR.out.lt
                go_wp2
                obtain ⟨WF, hWF⟩ : ∃ WF, WF = set6 w8 gr false s P (.slice va1 pl vc1) k1 (.slice va2 fl vc2) := ⟨_, rfl⟩
                have HBR := Lib.hid (show BoxAt WF gr false s P (.slice va1 pl vc1) k1 (.slice va2 fl vc2) by rw [hWF]; exact HVR.out.set6)
                have HBF := Lib.hid (show Below w.heap.size w WF by rw [hWF]; exact Below.set6 (g := gr) HBW.out HGE2.out)
                have HTF := Lib.hid (show TyVN N WF _ (.mk false s P PS k1 fs1) by rw [hWF]; exact TyVN.mono (TyVN.set6 (g := gr) (TyVN.mk (N := M) HS5.out HS6.out) HM2.out) fun x _ h => HMN.out x h)
                unfold set6 at hWF
                rw [← hWF]
                clear hWF
                refine bodyPost_ret (v := .agg #[.bool false, .int .i64 s, .int .i64 P, .slice va1 pl vc1, .int .i64 k1, (.slice va2 fl vc2)]) ?_ ?_ ?_
                · have z0 := HBR.out.c0
                  have z1 := HBR.out.c1
                  have z2 := HBR.out.c2
                  have z3 := HBR.out.c3
                  have z4 := HBR.out.c4
                  have z5 := HBR.out.c5
                  simp [results, Tryd.results19, go_sem, z0, z1, z2, z3, z4, z5]
                · rfl
                · exact ⟨⟨_, rfl, by rw [HRES2.out]; exact HTF.out⟩, HBF.out⟩
              | false =>
                have hne : ¬ (xn = yn ∧ samesT a.funs b.funs = true) := fun h => by have := HSM.out.2 h; cases this
                have hres2 : joinF (n + 1) a b = .mk false s P PS 2 [] := by rw [HRES.out, HKE.out, HFE.out, if_neg hne, if_neg hne]
                have HRES2 := Lib.hid hres2
                clear hres2 hne
                have HJR9 := Lib.hid (HJ5.out _ _ _ _ _ _ _ _ (.slice none 0 0) [] (HJ4.out _ _ _ _ _ _ _ _ 2 HJR8.out) (.mkNil _ _))
                have hjr := HJR8.out
                rw [HJR.out] at hjr
                obtain ⟨va, vb, vr, vo, hbw, hws, hna, hnb, ⟨hs1, hs2, hs3, hs4⟩, hs5, hs6⟩ := hjr
                have qo0 := vo.c0
                have qo1 := vo.c1
                have qo2 := vo.c2
                have qo3 := vo.c3
                have qo4 := vo.c4
                have qo5 := vo.c5
                have tlo := vo.lt
                have zo4 := vo.fr 4
                have zo5 := vo.fr 5
                have HS1 := Lib.hid hs1
                have HS2 := Lib.hid hs2
                have HS3 := Lib.hid hs3
                have HS4 := Lib.hid hs4
                have HS5 := Lib.hid hs5
                have HS6 := Lib.hid hs6
                have HNA := Lib.hid hna
                have HNB := Lib.hid hnb
                have HVO := Lib.hid vo
                have HVR := Lib.hid vr
                have HVA1 := Lib.hid va
                have HVB1 := Lib.hid vb
                have HBW := Lib.hid hbw
                clear va vb vr vo hbw hws hna hnb hs1 hs2 hs3 hs4 hs5 hs6
                have qr0 := HVR.out.c0
                have zr0 := HVR.out.fr 0
                have qr1 := HVR.out.c1
                have zr1 := HVR.out.fr 1
                have qr2 := HVR.out.c2
                have zr2 := HVR.out.fr 2
                have qr3 := HVR.out.c3
                have zr3 := HVR.out.fr 3
                have qr4 := HVR.out.c4
                have zr4 := HVR.out.fr 4
                have qr5 := HVR.out.c5
                have zr5 := HVR.out.fr 5
                have tlr := HVR.out.lt
                clear HS1
                clear HS2
                clear HS3
                clear HS4
                clear HS5
                clear HS6
                clear HNA HNB HVR HVA1 HVB1 HBW
                have ko4 := (HVO.out.s4 (k' := 2)).c4
                have ko5 := ((HVO.out.s4 (k' := 2)).s5 (fv' := .slice none 0 0)).c5
                clear HVO
                have hjr := HJR9.out
                rw [HJR.out] at hjr
                obtain ⟨va, vb, vr, vo, hbw, hws, hna, hnb, ⟨hs1, hs2, hs3, hs4⟩, hs5, hs6⟩ := hjr
                have HVR := Lib.hid vr
                have HBW := Lib.hid hbw
                have HS5 := Lib.hid hs5
                have HS6 := Lib.hid hs6
                clear va vb vr vo hbw hws hna hnb hs1 hs2 hs3 hs4 hs5 hs6
                go_wp2
                obtain ⟨WF, hWF⟩ : ∃ WF, WF = set6 ((w8.setCell ⟨go, 4, none⟩ (.int .i64 2)).setCell ⟨go, 5, none⟩ (.slice none 0 0)) gr false s P (.slice va1 pl vc1) 2 (.slice none 0 0) := ⟨_, rfl⟩
                have HBR := Lib.hid (show BoxAt WF gr false s P (.slice va1 pl vc1) 2 (.slice none 0 0) by rw [hWF]; exact HVR.out.set6)
                have HBF := Lib.hid (show Below w.heap.size w WF by rw [hWF]; exact Below.set6 (g := gr) HBW.out HGE2.out)
                have HTF := Lib.hid (show TyVN N WF _ (.mk false s P PS 2 []) by rw [hWF]; exact TyVN.mono (TyVN.set6 (g := gr) (TyVN.mk (N := M) HS5.out HS6.out) HM2.out) fun x _ h => HMN.out x h)
                unfold set6 at hWF
                rw [← hWF]
                clear hWF
                refine bodyPost_ret (v := .agg #[.bool false, .int .i64 s, .int .i64 P, .slice va1 pl vc1, .int .i64 2, (.slice none 0 0)]) ?_ ?_ ?_
                · have z0 := HBR.out.c0
                  have z1 := HBR.out.c1
                  have z2 := HBR.out.c2
                  have z3 := HBR.out.c3
                  have z4 := HBR.out.c4
                  have z5 := HBR.out.c5
                  simp [results, Tryd.results19, go_sem, z0, z1, z2, z3, z4, z5]
                · rfl
                · exact ⟨⟨_, rfl, by rw [HRES2.out]; exact HTF.out⟩, HBF.out⟩

theorem joinref_any : ∀ n : Nat, JoinOK n := by
  intro n
  induction n with
  | zero => intro N a b va vb w _ h; have := szT_pos a; omega
  | succ n ih => exact join_succ n ih
end Go.Proofs.YtdjhjapfmbcmlaaDoor
