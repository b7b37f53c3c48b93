import Derived.Test.YtlalnkabfigodaaDoorTyB
namespace Go.Proofs.YtlalnkabfigodaaDoor
open Go.RowKit

/-- blocks that are there, and none of N -/
def Lo (N : Nat → Prop) (w : World) (b : Nat) : Prop := b < w.heap.size ∧ ¬ N b
/-- a value of type Type that lies in no block of N -/
def TyVN (N : Nat → Prop) (w : World) (v : Value) (t : Ty) : Prop := ∃ r, v = rawV r ∧ RawOf w (Lo N w) r t
theorem TyVN.v {N : Nat → Prop} {w : World} {v : Value} {t : Ty} (h : TyVN N w v t) : TyV w v t := by
 obtain ⟨r, hv, h⟩ := h
 exact ⟨r, hv, h.mono (fun _ h => h.1) fun _ _ _ => rfl⟩
theorem TyV.n {w : World} {v : Value} {t : Ty} (h : TyV w v t) : TyVN (fun _ => False) w v t := by
 obtain ⟨r, hv, h⟩ := h
 exact ⟨r, hv, h.mono (fun _ h => ⟨h, id⟩) fun _ _ _ => rfl⟩
theorem TyVN.mono {N M : Nat → Prop} {w : World} {v : Value} {t : Ty} (h : TyVN N w v t) (hNM : ∀ b, b < w.heap.size → M b → N b) : TyVN M w v t := by
 obtain ⟨r, hv, h⟩ := h
 exact ⟨r, hv, h.mono (fun b h => ⟨h.1, fun hm => h.2 (hNM b h.1 hm)⟩) fun _ _ _ => rfl⟩
theorem TyVN.below {N : Nat → Prop} {w w' : World} {v : Value} {t : Ty} (h : TyVN N w v t) (hb : Below w.heap.size w w') : TyVN N w' v t := by
 obtain ⟨r, hv, h⟩ := h
 exact ⟨r, hv, h.mono (fun b h => ⟨Nat.lt_of_lt_of_le h.1 hb.size, h.2⟩) fun _ _ h => hb.cell (p := ⟨_, _, none⟩) h.1⟩
/-- with what is made later left out as well -/
theorem TyVN.later {N M : Nat → Prop} {w w' : World} {v : Value} {t : Ty} (h : TyVN N w v t) (hb : Below w.heap.size w w') (hM : ∀ b, M b → N b ∨ w.heap.size ≤ b) : TyVN M w' v t :=
 (h.mono fun b hlt hm => (hM b hm).resolve_right (by omega)).below hb
theorem Lo.set {N : Nat → Prop} {w : World} {k : Nat} (x : Addr × Value) (hk : x.1.block = k) (hN : N k) {b : Nat} (h : Lo N w b) : Lo N (w.setCell x.1 x.2) b ∧ ∀ o, (w.setCell x.1 x.2).cell? ⟨b, o, none⟩ = w.cell? ⟨b, o, none⟩ := by
 have hne : b ≠ x.1.block := fun e => h.2 (by rw [e, hk]; exact hN)
 refine ⟨⟨by simpa [World.setCell] using h.1, h.2⟩, fun o => ?_⟩
 simp only [World.cell?, Below.heap_setCell w x.1 x.2 b hne]
theorem TyVN.set {N : Nat → Prop} {w : World} {v : Value} {t : Ty} (h : TyVN N w v t) (p : Addr) (hp : N p.block) (x : Value) : TyVN N (w.setCell p x) v t := by
 obtain ⟨r, hv, h⟩ := h
 exact ⟨r, hv, h.mono (fun _ hb => (Lo.set (p, x) rfl hp hb).1) fun _ o hb => (Lo.set (p, x) rfl hp hb).2 o⟩
theorem TySN.set {N : Nat → Prop} {w : World} {v : Value} {l : List Ty} (h : TyS w (Lo N w) v l) (p : Addr) (hp : N p.block) (x : Value) : TyS (w.setCell p x) (Lo N (w.setCell p x)) v l :=
 h.mono (fun _ hb => (Lo.set (p, x) rfl hp hb).1) fun _ o hb => (Lo.set (p, x) rfl hp hb).2 o
theorem TySN.below {N : Nat → Prop} {w w' : World} {v : Value} {l : List Ty} (h : TyS w (Lo N w) v l) (hb : Below w.heap.size w w') : TyS w' (Lo N w') v l :=
 h.mono (fun _ h => ⟨Nat.lt_of_lt_of_le h.1 hb.size, h.2⟩) fun _ _ h => hb.cell (p := ⟨_, _, none⟩) h.1
theorem TySN.mono {N M : Nat → Prop} {w : World} {v : Value} {l : List Ty} (h : TyS w (Lo N w) v l) (hNM : ∀ b, b < w.heap.size → M b → N b) : TyS w (Lo M w) v l :=
 TyS.mono (fun b h => ⟨h.1, fun hm => h.2 (hNM b h.1 hm)⟩) (fun _ _ _ => rfl) h
theorem TySN.later {N M : Nat → Prop} {w w' : World} {v : Value} {l : List Ty} (h : TyS w (Lo N w) v l) (hb : Below w.heap.size w w') (hM : ∀ b, M b → N b ∨ w.heap.size ≤ b) : TyS w' (Lo M w') v l :=
 TySN.below (TySN.mono h fun b hlt hm => (hM b hm).resolve_right (by omega)) hb
theorem TyVN.form {N : Nat → Prop} {w : World} {v : Value} {t : Ty} (h : TyVN N w v t) : ∃ pa pc fa fc, v = .agg #[.bool t.all, .int .i64 t.flat, .int .i64 t.pair, .slice pa t.pairs.length pc, .int .i64 t.fn, .slice fa t.funs.length fc] ∧
  TyS w (Lo N w) (.slice pa t.pairs.length pc) t.pairs ∧ TyS w (Lo N w) (.slice fa t.funs.length fc) t.funs := by
 obtain ⟨⟨a, f, p, pv, g, fv⟩, rfl, h1, h2, h3, h4, h5, h6⟩ := h
 simp only at h1 h2 h3 h4 h5 h6
 obtain ⟨pa, pc, rfl⟩ := h5.val
 obtain ⟨fa, fc, rfl⟩ := h6.val
 subst h1 h2 h3 h4
 exact ⟨pa, pc, fa, fc, rfl, h5, h6⟩
theorem TyVN.mk {N : Nat → Prop} {w : World} {a : Bool} {f p g : Int} {pv fv : Value} {ps fs : List Ty} (hp : TyS w (Lo N w) pv ps) (hf : TyS w (Lo N w) fv fs) :
  TyVN N w (.agg #[.bool a, .int .i64 f, .int .i64 p, pv, .int .i64 g, fv]) (.mk a f p ps g fs) := ⟨⟨a, f, p, pv, g, fv⟩, rfl, rfl, rfl, rfl, rfl, hp, hf⟩
theorem TySN.elem {N : Nat → Prop} {w : World} {pa : Option Addr} {n c : Nat} {l : List Ty} {d : Ty} (h : TyS w (Lo N w) (.slice pa n c) l) {j : Nat} (hj : j < l.length) (hd : l.getD j ty0 = d) :
  ∃ b off p1 c1 p2 c2, pa = some ⟨b, off, none⟩ ∧ b < w.heap.size ∧ w.cell? ⟨b, off + j * 6, none⟩ = some (.bool d.all) ∧ w.cell? ⟨b, off + j * 6 + 1, none⟩ = some (.int .i64 d.flat) ∧ w.cell? ⟨b, off + j * 6 + 2, none⟩ = some (.int .i64 d.pair) ∧
   w.cell? ⟨b, off + j * 6 + 3, none⟩ = some (.slice p1 d.pairs.length c1) ∧ w.cell? ⟨b, off + j * 6 + 4, none⟩ = some (.int .i64 d.fn) ∧ w.cell? ⟨b, off + j * 6 + 5, none⟩ = some (.slice p2 d.funs.length c2) ∧
   TyVN N w (.agg #[.bool d.all, .int .i64 d.flat, .int .i64 d.pair, .slice p1 d.pairs.length c1, .int .i64 d.fn, .slice p2 d.funs.length c2]) d := by
 obtain ⟨b, off, r, hp, hb, hc, hr⟩ := h.at hj
 rw [hd] at hr
 obtain ⟨a, f, p, pv, g, fv⟩ := r
 obtain ⟨h1, h2, h3, h4, h5, h6⟩ := hr
 simp only at h1 h2 h3 h4 h5 h6
 obtain ⟨p1, c1, rfl⟩ := h5.val
 obtain ⟨p2, c2, rfl⟩ := h6.val
 subst h1 h2 h3 h4
 exact ⟨b, off, p1, c1, p2, c2, hp, hb.1, hc.1, hc.2.1, hc.2.2.1, hc.2.2.2.1, hc.2.2.2.2.1, hc.2.2.2.2.2, ⟨⟨d.all, d.flat, d.pair, _, d.fn, _⟩, rfl, rfl, rfl, rfl, rfl, h5, h6⟩⟩
/-- a whole type is stored -/
def set6 (w : World) (g : Nat) (a : Bool) (f p : Int) (pv : Value) (k : Int) (fv : Value) : World :=
 (((((w.setCell ⟨g, 0, none⟩ (.bool a)).setCell ⟨g, 1, none⟩ (.int .i64 f)).setCell ⟨g, 2, none⟩ (.int .i64 p)).setCell ⟨g, 3, none⟩ pv).setCell ⟨g, 4, none⟩ (.int .i64 k)).setCell ⟨g, 5, none⟩ fv
section
variable {w w0 : World} {g B : Nat} {a a' : Bool} {f f' p p' k k' : Int} {pv pv' fv fv' : Value}
theorem BoxAt.set6 (h : BoxAt w g a f p pv k fv) : BoxAt (set6 w g a' f' p' pv' k' fv') g a' f' p' pv' k' fv' := by
 unfold BoxAt Go.Proofs.YtlalnkabfigodaaDoor.set6 at *
 simp [World.setCell, Array.getElem?_modify, h]
theorem BoxAt.other6 {m : Nat} (h : BoxAt w g a f p pv k fv) (hm : g ≠ m) : BoxAt (Go.Proofs.YtlalnkabfigodaaDoor.set6 w m a' f' p' pv' k' fv') g a f p pv k fv := by
 unfold BoxAt Go.Proofs.YtlalnkabfigodaaDoor.set6 at *
 simp [World.setCell, Array.getElem?_modify, h, hm.symm]
theorem Below.set6 (h : Below B w0 w) (hg : B ≤ g) : Below B w0 (Go.Proofs.YtlalnkabfigodaaDoor.set6 w g a' f' p' pv' k' fv') :=
 (((((h.setCell (p := ⟨g, 0, none⟩) hg _).setCell (p := ⟨g, 1, none⟩) hg _).setCell (p := ⟨g, 2, none⟩) hg _).setCell (p := ⟨g, 3, none⟩) hg _).setCell (p := ⟨g, 4, none⟩) hg _).setCell (p := ⟨g, 5, none⟩) hg _
theorem TyVN.set6 {N : Nat → Prop} {v : Value} {t : Ty} (h : TyVN N w v t) (hg : N g) : TyVN N (Go.Proofs.YtlalnkabfigodaaDoor.set6 w g a' f' p' pv' k' fv') v t :=
 (((((h.set ⟨g, 0, none⟩ hg _).set ⟨g, 1, none⟩ hg _).set ⟨g, 2, none⟩ hg _).set ⟨g, 3, none⟩ hg _).set ⟨g, 4, none⟩ hg _).set ⟨g, 5, none⟩ hg _
end
/-- a type handed back -/
def TyPost (N : Nat → Prop) (t : Ty) (w : World) (e : Ending) (w' : World) : Prop := (∃ v, e = .returned v ∧ TyVN N w' v t) ∧ Below w.heap.size w w'
/-- a type, and whether it is one -/
def TwPost (N : Nat → Prop) (t : Ty) (b : Bool) (w : World) (e : Ending) (w' : World) : Prop := (∃ v, e = .returned (.tuple #[v, .bool b]) ∧ TyVN N w' v t) ∧ Below w.heap.size w w'
theorem ty0_v (N : Nat → Prop) (w : World) : TyVN N w (.agg #[.bool false, .int .i64 0, .int .i64 0, .slice none 0 0, .int .i64 0, .slice none 0 0]) ty0 := TyVN.mk (.mkNil _ _) (.mkNil _ _)
theorem tyAll_v (N : Nat → Prop) (w : World) : TyVN N w (.agg #[.bool true, .int .i64 0, .int .i64 0, .slice none 0 0, .int .i64 0, .slice none 0 0]) tyAll := TyVN.mk (.mkNil _ _) (.mkNil _ _)
/-- a slice of one type -/
theorem TyS.one {N : Nat → Prop} {W0 : World} {r : RawT} {t : Ty} (hN : ∀ b, N b → b < W0.heap.size) (h : RawOf W0 (Lo N W0) r t) : TyS (W0.alloc (.cells #[.bool r.all, .int .i64 r.flat, .int .i64 r.pair, r.pv, .int .i64 r.fn, r.fv] 47)) (Lo N (W0.alloc (.cells #[.bool r.all, .int .i64 r.flat, .int .i64 r.pair, r.pv, .int .i64 r.fn, r.fv] 47))) (.slice (some ⟨W0.heap.size, 0, none⟩) 1 1) [t] := by
 have hb : BoxAt (W0.alloc (.cells #[.bool r.all, .int .i64 r.flat, .int .i64 r.pair, r.pv, .int .i64 r.fn, r.fv] 47)) W0.heap.size r.all r.flat r.pair r.pv r.fn r.fv := BoxAt.made _ _ _ _ _ _ _
 refine TyS.mk (l := [t]) (rs := [r]) ⟨hb.lt, fun h => Nat.lt_irrefl _ (hN _ h)⟩ (by unfold maxLen; simp) (fun j hj => ?_) ⟨rfl, fun j hj => ?_⟩ (Nat.le_refl _)
 ·
  have h0 : j = 0 := by simpa using hj
  subst h0
  exact ⟨hb.c0, hb.c1, hb.c2, hb.c3, hb.c4, hb.c5⟩
 ·
  have h0 : j = 0 := by simpa using hj
  subst h0
  have hbl : Below W0.heap.size W0 (W0.alloc (.cells #[.bool r.all, .int .i64 r.flat, .int .i64 r.pair, r.pv, .int .i64 r.fn, r.fv] 47)) := (Below.refl _ _).alloc (Nat.le_refl _) _
  exact h.mono (fun b h => ⟨Nat.lt_of_lt_of_le h.1 hbl.size, h.2⟩) fun _ _ h => hbl.cell (p := ⟨_, _, none⟩) h.1
end Go.Proofs.YtlalnkabfigodaaDoor
