/- frame.Read: the methods nothing, padding, close, token, data, crypto. -/
import Derived.Test.YtgcgmgcgbnepeaaDoorGRd1
namespace Go.Proofs.YtgcgmgcgbnepeaaDoor
open Go Go.RowKit

/-- What taking a frame's body does: the frame is there as far as it has a form; Right tells the rest; or it panics with 3. -/
def Gtk (zs : List Int) (k : Int) (t : Nat) (w0 w : World) (R B lo : Nat) (e : Ending) (w' : World) : Prop :=
  (e = errPanic 3 ∧ Kq R B w w' ∧ gBody zs k t = none) ∨
  ∃ f sv dv t', e = .returned (.tuple #[]) ∧ Gq w' R B lo f sv dv ∧ Fq w0 w' B (zs.drop t') t' 3 ∧ Kq R B w w' ∧ (rightB f = true → gBody zs k t = some (f, t')) ∧ (rightB f = false → gBody zs k t = none)
/-- The state ahead of a body of kind k. -/
structure Gst (zs : List Int) (k : Int) (t : Nat) (w0 w : World) (R B lo : Nat) : Prop where
  g : Gq w R B lo ⟨k, 0, [], 0, [], 0⟩ (.slice none 0 0) (.slice none 0 0)
  fq : Fq w0 w B (zs.drop t) t 3
  byt : Byt zs
  len : zs.length ≤ 1200
  pos : 1 ≤ t ∧ t ≤ zs.length
  lo : w0.heap.size ≤ B
theorem Gst.kb {zs : List Int} {k : Int} {t : Nat} {w0 w : World} {R B lo : Nat} (h : Gst zs k t w0 w R B lo) : B ≠ R ∧ B < lo ∧ w0.heap.size ≤ R := by
  obtain ⟨o1, o2, o3⟩ := h.g.ord
  have := h.lo
  omega
theorem gq_num {w0 w w1 : World} {R B lo t t' : Nat} {zs : List Int} {f : Fv} {sv dv : Value} (h : Gq w R B lo f sv dv) (hb : But B w w1) (_hF : Fq w0 w1 B (zs.drop t') t' 3) (_ht : t ≤ t') : Gq w1 R B lo f sv dv := by
  obtain ⟨o1, o2, o3⟩ := h.ord
  exact h.keep hb (by omega) (by omega)
theorem fq_set {w0 w : World} {R B t i : Nat} {rest : List Int} {x : Value} (h : Fq w0 w B rest t 3) (hR : w0.heap.size ≤ R) (hne : B ≠ R) : Fq w0 (w.setCell ⟨R, i, none⟩ x) B rest t 3 := h.but (But.set w R i x) hR hne

set_option maxRecDepth 20000 in
theorem does_nothing {zs : List Int} {k : Int} {t : Nat} {w0 w : World} {R B lo : Nat} (hk : k = 1 ∨ k = 30) (h : Gst zs k t w0 w R B lo) :
    Calls Tryd.prog 53 #[.pointer (some ⟨R, 0, none⟩)] w (Gtk zs k t w0 w R B lo) := by
  have HH := Lib.hid h
  clear h
  go_enter Tryd.func53, Tryd.ntmps53
  go_wp2_with fail
  go_end0
  refine .inr ⟨_, _, _, t, rfl, HH.out.g, HH.out.fq, Kq.refl _ _ _, fun _ => ?_, fun hr => ?_⟩
  · rcases hk with rfl | rfl <;> simp [gBody]
  · rcases hk with rfl | rfl <;> simp [rightB, bareB] at hr
set_option maxRecDepth 20000 in
set_option maxHeartbeats 2000000 in
theorem does_padding {zs : List Int} {t : Nat} {w0 w : World} {R B lo : Nat} (h : Gst zs 0 t w0 w R B lo) :
    Calls Tryd.prog 52 #[.pointer (some ⟨R, 0, none⟩)] w (Gtk zs 0 t w0 w R B lo) := by
  have HH := Lib.hid h
  have hr := run_q h.fq
  have hzl := (zeros_inv (zs.drop t)).2
  have hzl2 : zeros (zs.drop t) + t ≤ 1200 := by
    have := h.len
    have := h.pos
    simp at hzl
    omega
  have HG : Hid (gBody zs 0 t = some (⟨0, 1 + zeros (zs.drop t), [], 0, [], 0⟩, t + zeros (zs.drop t))) := Lib.hid (by simp [gBody])
  rw [List.drop_drop] at hr
  have ht := h.pos.1
  obtain ⟨c0, c1, c2, c3, c4, c5, c6, cf⟩ := h.g.cells
  generalize zeros (zs.drop t) = z at *
  clear h c1 c2 c3 c4 c5 c6
  go_enter Tryd.func52, Tryd.ntmps52
  go_wp2_with (go_at_call 61; refine hr.mono ?_; rintro e w1 ⟨rfl, hF1, hb1⟩; have hG := gq_num HH.out.g hb1 hF1 (Nat.le_add_right _ _); obtain ⟨c0, c1, c2, c3, c4, c5, c6, cf⟩ := hG.cells)
  go_end0
  obtain ⟨k1, k2, k3⟩ := HH.out.kb
  refine .inr ⟨_, _, _, t + z, rfl, hG.setc (1 + z), fq_set hF1 k3 k1, (Kq.r hb1).trans (Kq.l (But.set _ R 2 _)), fun _ => HG.out, fun hr => ?_⟩
  simp [rightB, bareB] at hr
  omega
set_option maxRecDepth 20000 in
set_option maxHeartbeats 2000000 in
theorem does_close {zs : List Int} {t : Nat} {w0 w : World} {R B lo : Nat} (h : Gst zs 28 t w0 w R B lo) :
    Calls Tryd.prog 58 #[.pointer (some ⟨R, 0, none⟩)] w (Gtk zs 28 t w0 w R B lo) := by
  have HH := Lib.hid h
  obtain ⟨c0, c1, c2, c3, c4, c5, c6, cf⟩ := h.g.cells
  cases hv : gVar zs t with
  | some x =>
    obtain ⟨n, t'⟩ := x
    have hr := gnum_yes h.fq h.byt hv
    have HB := Lib.hid (gvar_bd h.byt hv)
    have HG : Hid (gBody zs 28 t = some (⟨28, n, [], 0, [], 0⟩, t')) := Lib.hid (by simp [gBody, hv])
    clear h c1 c2 c3 c4 c5 c6 hv
    go_enter Tryd.func58, Tryd.ntmps58
    go_wp2_with (go_at_call 62; refine hr.mono ?_; rintro e w1 ⟨rfl, hF1, hb1⟩; have hG := gq_num HH.out.g hb1 hF1 (Nat.le_of_lt HB.out.2.1); obtain ⟨c0, c1, c2, c3, c4, c5, c6, cf⟩ := hG.cells)
    go_end0
    obtain ⟨k1, k2, k3⟩ := HH.out.kb
    refine .inr ⟨_, _, _, t', rfl, hG.setc n, fq_set hF1 k3 k1, (Kq.r hb1).trans (Kq.l (But.set _ R 2 _)), fun _ => HG.out, fun hr => ?_⟩
    have := nmB_iff.2 HB.out.1
    simp [rightB, bareB, this] at hr
  | none =>
    have hr := gnum_no h.fq h.byt hv
    have HG : Hid (gBody zs 28 t = none) := Lib.hid (by simp [gBody, hv])
    clear h c1 c2 c3 c4 c5 c6 hv
    go_enter Tryd.func58, Tryd.ntmps58
    go_wp2_with (go_at_call 62; refine hr.mono ?_; rintro e w1 ⟨he, hb1⟩; rw [errPanic] at he; subst he)
    exact ⟨rfl, .inl ⟨rfl, Kq.r hb1, HG.out⟩⟩
/-- token, whatever is there of the frame. -/
theorem gterm_open {zs : List Int} {t : Nat} : (gBytes zs 4 t = none ∧ gTerm zs t = none) ∨ ∃ l, gBytes zs 4 t = some (l, t + 4) ∧ l.length = 4 ∧ ((numd l = 0 ∧ gTerm zs t = none) ∨ (numd l ≠ 0 ∧ gTerm zs t = some (numd l, t + 4) ∧ 1 ≤ numd l ∧ numd l ≤ 65536)) := by
  unfold gTerm
  unfold gBytes
  by_cases h : (zs.drop t).length < 4
  · rw [if_pos h]; exact .inl ⟨rfl, rfl⟩
  · rw [if_neg h]
    have hl : ((zs.drop t).take 4).length = 4 := by
      rw [List.length_take]; omega
    refine .inr ⟨_, rfl, hl, ?_⟩
    rw [numd_big hl]
    simp only
    by_cases h2 : 1 ≤ bigv ((zs.drop t).take 4) 0 ∧ bigv ((zs.drop t).take 4) 0 ≤ 65536
    · rw [if_pos h2, if_pos h2]; exact .inr ⟨by omega, rfl, h2⟩
    · rw [if_neg h2, if_neg h2]; exact .inl ⟨rfl, rfl⟩
/-- What token does. -/
def Gtok (zs : List Int) (t : Nat) (w0 w : World) (R B lo : Nat) (f : Fv) (sv dv : Value) (e : Ending) (w' : World) : Prop :=
  (e = errPanic 3 ∧ Kq R B w w' ∧ gTerm zs t = none) ∨
  ∃ h, e = .returned (.tuple #[]) ∧ Gq w' R B lo { f with t := h } sv dv ∧ Fq w0 w' B (zs.drop (t + 4)) (t + 4) 3 ∧ Kq R B w w' ∧ gTerm zs t = some (h, t + 4) ∧ 1 ≤ h ∧ h ≤ 65536
set_option maxRecDepth 20000 in
set_option maxHeartbeats 2000000 in
theorem token_any {zs : List Int} {t : Nat} {w0 w : World} {R B lo : Nat} {f : Fv} {sv dv : Value} (g : Gq w R B lo f sv dv) (hF : Fq w0 w B (zs.drop t) t 3) (hlo : w0.heap.size ≤ B) :
    Calls Tryd.prog 56 #[.pointer (some ⟨R, 0, none⟩)] w (Gtok zs t w0 w R B lo f sv dv) := by
  have HG := Lib.hid g
  obtain ⟨c0, c1, c2, c3, c4, c5, c6, cf⟩ := g.cells
  obtain ⟨o1, o2, o3⟩ := g.ord
  rcases gterm_open (zs := zs) (t := t) with ⟨hb, hg⟩ | ⟨l, hb, hl, hn⟩
  · have hr := gbytes_no hF hb
    have HT := Lib.hid hg
    clear g hF hb hg c1 c2 c3 c4 c5 c6
    go_enter Tryd.func56, Tryd.ntmps56
    go_wp2_with (go_at_call 64; refine hr.mono ?_; rintro e w1 ⟨he, hb1⟩; rw [errPanic] at he; subst he)
    exact ⟨rfl, .inl ⟨rfl, Kq.r hb1, HT.out⟩⟩
  · have hr := gbytes_yes hF hb
    rcases hn with ⟨hn0, hg⟩ | ⟨hn0, hg, h1, h2⟩
    · have HT := Lib.hid hg
      have hd : decide (numd l ≠ 0) = false := decide_eq_false (by omega)
      have hwn := fun w1 => want_no w1 3
      have hnb := fun (w1 : World) (v : Value) (h : Rd w1 v l) => numbered_any h h.byt
      rw [hd, hn0] at hnb
      clear g hF hb hg c1 c2 c3 c4 c5 c6 hd hn0
      go_enter Tryd.func56, Tryd.ntmps56
      go_wp2_with (first
        | (go_at_call 64; refine hr.mono ?_; rintro e w1 ⟨v1, rfl, ⟨hv, _⟩, hF1, hb1⟩)
        | (go_at_call 65; refine (hnb _ _ hv.rd).mono ?_; rintro e w2 ⟨rfl, rfl⟩)
        | (go_at_call 47; refine (hwn _).mono ?_; rintro e w2 ⟨he, rfl⟩; rw [errPanic] at he; subst he))
      exact ⟨rfl, .inl ⟨rfl, Kq.r hb1, HT.out⟩⟩
    · have HT := Lib.hid (And.intro hg (And.intro h1 h2))
      have hd : decide (numd l ≠ 0) = true := decide_eq_true hn0
      have hwn := fun w1 => want_yes w1 3
      have hnb := fun (w1 : World) (v : Value) (h : Rd w1 v l) => numbered_any h h.byt
      rw [hd] at hnb
      have hRR : w0.heap.size ≤ R := by omega
      clear g hF hb hg c1 c2 c3 c4 c5 c6 hd hn0
      generalize numd l = nn at *
      go_enter Tryd.func56, Tryd.ntmps56
      go_wp2_with (first
        | (go_at_call 64; refine hr.mono ?_; rintro e w1 ⟨v1, rfl, ⟨hv, _⟩, hF1, hb1⟩; have hG := gq_num HG.out hb1 hF1 (Nat.le_add_right _ _); obtain ⟨c0, c1, c2, c3, c4, c5, c6, cf⟩ := hG.cells)
        | (go_at_call 65; refine (hnb _ _ hv.rd).mono ?_; rintro e w2 ⟨rfl, rfl⟩)
        | (go_at_call 47; refine (hwn _).mono ?_; rintro e w2 ⟨rfl, rfl⟩))
      go_end0
      exact .inr ⟨nn, rfl, hG.sett nn, fq_set hF1 hRR (by omega), (Kq.r hb1).trans (Kq.l (But.set _ R 6 _)), HT.out.1, HT.out.2.1, HT.out.2.2⟩
theorem does_token {zs : List Int} {t : Nat} {w0 w : World} {R B lo : Nat} (h : Gst zs 7 t w0 w R B lo) :
    Calls Tryd.prog 56 #[.pointer (some ⟨R, 0, none⟩)] w (Gtk zs 7 t w0 w R B lo) := by
  refine (token_any h.g h.fq h.lo).mono ?_
  rintro e w' (⟨he, hk, hg⟩ | ⟨n, he, hG, hF, hk, hg, h1, h2⟩)
  · exact .inl ⟨he, hk, by simp [gBody, hg]⟩
  · refine .inr ⟨_, _, _, _, he, hG, hF, hk, fun _ => by simp [gBody, hg], fun hr => ?_⟩
    simp [rightB, bareB, tmB] at hr
    omega
set_option maxRecDepth 20000 in
set_option maxHeartbeats 2000000 in
theorem does_data {zs : List Int} {t : Nat} {w0 w : World} {R B lo : Nat} (h : Gst zs 8 t w0 w R B lo) :
    Calls Tryd.prog 57 #[.pointer (some ⟨R, 0, none⟩)] w (Gtk zs 8 t w0 w R B lo) := by
  have HH := Lib.hid h
  obtain ⟨c0, c1, c2, c3, c4, c5, c6, cf⟩ := h.g.cells
  cases hv : gVar zs t with
  | some x =>
    obtain ⟨n, t'⟩ := x
    have hr := gnum_yes h.fq h.byt hv
    have HB := Lib.hid (gvar_bd h.byt hv)
    have HG : Hid (gBody zs 8 t = match gTerm zs t' with | some (h, t) => some (⟨8, n, [], 0, [], h⟩, t) | none => none) := Lib.hid (by simp [gBody, hv]; cases gTerm zs t' <;> rfl)
    clear h c1 c2 c3 c4 c5 c6 hv
    go_enter Tryd.func57, Tryd.ntmps57
    go_wp2_with (go_at_call 62; refine hr.mono ?_; rintro e w1 ⟨rfl, hF1, hb1⟩; have hG := gq_num HH.out.g hb1 hF1 (Nat.le_of_lt HB.out.2.1); obtain ⟨c0, c1, c2, c3, c4, c5, c6, cf⟩ := hG.cells)
    obtain ⟨k1, k2, k3⟩ := HH.out.kb
    have hT := token_any (hG.setc n) (fq_set (i := 2) (x := .int .i64 n) hF1 k3 k1) HH.out.lo
    have hK1 : Kq R B w (w1.setCell ⟨R, 2, none⟩ (.int .i64 n)) := (Kq.r hb1).trans (Kq.l (But.set _ R 2 _))
    refine hT.mono ?_
    rintro e w2 (⟨he, hk, hg⟩ | ⟨m, rfl, hG2, hF2, hk, hg, h1, h2⟩)
    · rw [errPanic] at he
      subst he
      have HX := Lib.hid (show gBody zs 8 t = none by rw [HG.out, hg])
      have HK := Lib.hid (hK1.trans hk)
      clear c0 c1 c2 c3 c4 c5 c6 cf hT hG hF1 hb1 hg hr hk hK1
      go_wp2_with fail
      exact ⟨rfl, .inl ⟨rfl, HK.out, HX.out⟩⟩
    · have HX := Lib.hid (HG.out.trans (by rw [hg]) : gBody zs 8 t = some (⟨8, n, [], 0, [], m⟩, t' + 4))
      have HK := Lib.hid (hK1.trans hk)
      clear c0 c1 c2 c3 c4 c5 c6 cf hT hG hF1 hb1 hg hr hk hK1
      go_wp2_with fail
      go_end0
      refine .inr ⟨_, _, _, t' + 4, rfl, hG2, hF2, HK.out, fun _ => HX.out, fun hr => ?_⟩
      have := nmB_iff.2 HB.out.1
      simp [rightB, bareB, tmB, this] at hr
      omega
  | none =>
    have hr := gnum_no h.fq h.byt hv
    have HG : Hid (gBody zs 8 t = none) := Lib.hid (by simp [gBody, hv])
    clear h c1 c2 c3 c4 c5 c6 hv
    go_enter Tryd.func57, Tryd.ntmps57
    go_wp2_with (go_at_call 62; refine hr.mono ?_; rintro e w1 ⟨he, hb1⟩; rw [errPanic] at he; subst he)
    exact ⟨rfl, .inl ⟨rfl, Kq.r hb1, HG.out⟩⟩
#print axioms does_data
end Go.Proofs.YtgcgmgcgbnepeaaDoor
