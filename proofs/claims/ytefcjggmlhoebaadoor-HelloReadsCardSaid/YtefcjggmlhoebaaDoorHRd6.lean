/- hello.Read: the map of bound methods; what each takes is what hParse tells. -/
import Derived.Test.YtefcjggmlhoebaaDoorHRd3
namespace Go.Proofs.YtefcjggmlhoebaaDoor
open Go Go.RowKit

theorem Hdo.open {zs : List Int} {w0 w w' : World} {R B lo : Nat} {y : Hm} {t : Nat} {e : Ending} (h : Hdo zs w0 w R B lo (some (y, t)) e w') : ∃ pv, e = .returned (.tuple #[]) ∧ Hq w' R B lo y pv ∧ Fq w0 w' B (zs.drop t) t 3 ∧ Kq R B w w' := by
  rcases h with ⟨_, _, h⟩ | ⟨x', pv', t', h1, h2, h3, h4, h5⟩
  · cases h
  · cases h2; exact ⟨pv', h1, h3, h4, h5⟩
theorem Hdo.dies {zs : List Int} {w0 w w' : World} {R B lo : Nat} {e : Ending} (h : Hdo zs w0 w R B lo none e w') : e = errPanic 3 ∧ Kq R B w w' := by
  rcases h with ⟨h1, h2, _⟩ | ⟨_, _, _, _, h, _⟩
  · exact ⟨h1, h2⟩
  · cases h
def hTold (zs : List Int) (t : Nat) (x : Hm) : Option (Hm × Nat) := match hFlag zs t with
  | some (f, t) => (match hGive zs t with | some (p, t) => some ({ x with f := f, p := p }, t) | none => none)
  | none => none
set_option maxRecDepth 20000 in
set_option maxHeartbeats 2000000 in
theorem htold_m {zs : List Int} {t : Nat} {w0 w : World} {R B lo : Nat} {x : Hm} {pv : Value} (g : Hq w R B lo x pv) (hF : Fq w0 w B (zs.drop t) t 3) (hbt : Byt zs) (hlo : w0.heap.size ≤ B) :
    Calls Tryd.prog 77 #[.pointer (some ⟨R, 0, none⟩)] w (Hdo zs w0 w R B lo (hTold zs t x)) := by
  have hc := hflag_m g hF hbt hlo
  have HBT := Lib.hid hbt
  clear g hF hbt
  cases hv : hFlag zs t with
  | none =>
    rw [hv] at hc
    simp only [Option.map] at hc
    go_enter Tryd.func77, Tryd.ntmps77
    go_wp2_with fail
    refine hc.mono ?_
    rintro e w1 hd
    obtain ⟨he, hk⟩ := hd.dies
    rw [errPanic] at he
    subst he
    go_wp2_with fail
    exact ⟨rfl, .inl ⟨rfl, hk, by unfold hTold; rw [hv]⟩⟩
  | some y =>
    obtain ⟨f, t1⟩ := y
    rw [hv] at hc
    simp only [Option.map] at hc
    go_enter Tryd.func77, Tryd.ntmps77
    go_wp2_with fail
    refine hc.mono ?_
    rintro e w1 hd
    obtain ⟨pv1, rfl, hG1, hF1, hk1⟩ := hd.open
    have hc2 := hparams_m hG1 hF1 HBT.out hlo
    clear hc hd hG1 hF1
    cases hv2 : hGive zs t1 with
    | none =>
      rw [hv2] at hc2
      simp only [Option.map] at hc2
      go_wp2_with fail
      refine hc2.mono ?_
      rintro e w2 hd
      obtain ⟨he, hk⟩ := hd.dies
      rw [errPanic] at he
      subst he
      go_wp2_with fail
      exact ⟨rfl, .inl ⟨rfl, hk1.trans hk, by unfold hTold; rw [hv]; simp only; rw [hv2]⟩⟩
    | some y2 =>
      obtain ⟨p, t2⟩ := y2
      rw [hv2] at hc2
      simp only [Option.map] at hc2
      go_wp2_with fail
      refine hc2.mono ?_
      rintro e w2 hd
      obtain ⟨pv2, rfl, hG2, hF2, hk2⟩ := hd.open
      go_wp2_with fail
      go_end0
      exact .inr ⟨_, _, _, rfl, by unfold hTold; rw [hv]; simp only; rw [hv2], hG2, hF2, hk1.trans hk2⟩
#print axioms htold_m
end Go.Proofs.YtefcjggmlhoebaaDoor
namespace Go.Proofs.YtefcjggmlhoebaaDoor
open Go Go.RowKit

def hServer (zs : List Int) (t : Nat) (x : Hm) : Option (Hm × Nat) := match hShares zs t x with
  | some (x1, t) => (match gBytes zs 4 t with
    | some (v, t) => (match hFlag zs t with | some (f, t) => some ({ x1 with v := bigv v 0, f := f }, t) | none => none)
    | none => none)
  | none => none
def hClient (zs : List Int) (t : Nat) (x : Hm) : Option (Hm × Nat) := match hShares zs t x with
  | some (x1, t) => (match hFlag zs t with
    | some (f, t) => (match hFlag zs t with
      | some (has, t) => (match hTermIf has zs t with
        | some (tk, t) => (match hGive zs t with
          | some (p, t) => (match hTermIf has zs t with
            | some (m, t) => some ({ x1 with f := f, t := tk, p := p, m := m }, t)
            | none => none)
          | none => none)
        | none => none)
      | none => none)
    | none => none)
  | none => none
set_option maxRecDepth 20000 in
set_option maxHeartbeats 4000000 in
theorem hserver_m {zs : List Int} {t : Nat} {w0 w : World} {R B lo : Nat} {x : Hm} {pv : Value} (g : Hq w R B lo x pv) (hF : Fq w0 w B (zs.drop t) t 3) (hbt : Byt zs) (hlo : w0.heap.size ≤ B) :
    Calls Tryd.prog 75 #[.pointer (some ⟨R, 0, none⟩)] w (Hdo zs w0 w R B lo (hServer zs t x)) := by
  have HBT := Lib.hid hbt
  obtain ⟨a1, a2, a3⟩ := g.ap
  have hRR : w0.heap.size ≤ R := by obtain ⟨o1, _, _⟩ := g.ord; omega
  have hc := hshares_m g hF hbt hlo
  clear g hF hbt
  cases hv1 : hShares zs t x with
  | none =>
    rw [hv1] at hc
    go_enter Tryd.func75, Tryd.ntmps75
    go_wp2_with fail
    refine hc.mono ?_
    rintro e w1 hd
    obtain ⟨he, hk⟩ := hd.dies
    rw [errPanic] at he
    subst he
    go_wp2_with fail
    exact ⟨rfl, .inl ⟨rfl, hk, by unfold hServer; rw [hv1]⟩⟩
  | some y1 =>
    obtain ⟨x1, t1⟩ := y1
    rw [hv1] at hc
    go_enter Tryd.func75, Tryd.ntmps75
    go_wp2_with fail
    refine hc.mono ?_
    rintro e w1 hd
    obtain ⟨pv1, rfl, hG1, hF1, hk1⟩ := hd.open
    clear hc hd
    obtain ⟨c0, ⟨c1, c2, c3, c4, c5, c6, c7, c8, c9, c10⟩, cf⟩ := hG1.cells
    cases hv2 : gBytes zs 4 t1 with
    | none =>
      have hx := fixed_e hF1 4 (by unfold gBytes at hv2; split at hv2; rename_i h9; exact_mod_cast h9; cases hv2)
      go_wp2_with fail
      refine hx.mono ?_
      rintro e w2 ⟨he, hb2⟩
      rw [errPanic] at he
      subst he
      go_wp2_with fail
      exact ⟨rfl, .inl ⟨rfl, hk1.trans (Kq.r hb2), by unfold hServer; rw [hv1]; simp only; rw [hv2]⟩⟩
    | some y2 =>
      obtain ⟨v, t2⟩ := y2
      have hx : Calls Tryd.prog 60 #[.pointer (some ⟨B, 0, none⟩), .int .i64 4] w1 fun e w2 => e = .returned (.int .i64 (bigv v 0)) ∧ Fq w0 w2 B (zs.drop t2) t2 3 ∧ But B w1 w2 := by
        unfold gBytes at hv2
        split at hv2
        · cases hv2
        · rename_i h9
          simp only [Option.some.injEq, Prod.mk.injEq] at hv2
          obtain ⟨rfl, rfl⟩ := hv2
          have := fixed_q hF1 4 (by omega) (by omega) (by omega)
          rw [List.drop_drop] at this
          exact this
      clear hF1
      go_wp2_with fail
      refine hx.mono ?_
      rintro e w2 ⟨rfl, hF2, hb2⟩
      have HG2 := Lib.hid (hG1.keep hb2 a1 a3)
      have HG3 := Lib.hid (HG2.out.setv (bigv v 0))
      have HK3 := Lib.hid ((hk1.trans (Kq.r hb2)).trans (Kq.l (But.set w2 R 9 (.int .i64 (bigv v 0)))))
      have hF3 := fq_set (i := 9) (x := .int .i64 (bigv v 0)) hF2 hRR a2
      have hc3 := hflag_m HG3.out hF3 HBT.out hlo
      clear c0 c1 c2 c3 c4 c5 c6 c7 c8 c9 c10 cf hx hF2 hF3 hb2 hG1 hk1
      obtain ⟨c0, ⟨c1, c2, c3, c4, c5, c6, c7, c8, c9, c10⟩, cf⟩ := HG2.out.cells
      cases hv3 : hFlag zs t2 with
      | none =>
        rw [hv3] at hc3
        simp only [Option.map] at hc3
        go_wp2_with fail
        refine hc3.mono ?_
        rintro e w4 hd
        obtain ⟨he, hk⟩ := hd.dies
        rw [errPanic] at he
        subst he
        go_wp2_with fail
        exact ⟨rfl, .inl ⟨rfl, HK3.out.trans hk, by unfold hServer; rw [hv1]; simp only; rw [hv2]; simp only; rw [hv3]⟩⟩
      | some y3 =>
        obtain ⟨f, t3⟩ := y3
        rw [hv3] at hc3
        simp only [Option.map] at hc3
        go_wp2_with fail
        refine hc3.mono ?_
        rintro e w4 hd
        obtain ⟨pv4, rfl, hG4, hF4, hk4⟩ := hd.open
        go_wp2_with fail
        go_end0
        exact .inr ⟨_, _, _, rfl, by unfold hServer; rw [hv1]; simp only; rw [hv2]; simp only; rw [hv3], hG4, hF4, HK3.out.trans hk4⟩
set_option maxRecDepth 20000 in
set_option maxHeartbeats 4000000 in
theorem hclient_m {zs : List Int} {t : Nat} {w0 w : World} {R B lo : Nat} {x : Hm} {pv : Value} (g : Hq w R B lo x pv) (hF : Fq w0 w B (zs.drop t) t 3) (hbt : Byt zs) (hlo : w0.heap.size ≤ B) (h0 : x.t = 0 ∧ x.m = 0) :
    Calls Tryd.prog 74 #[.pointer (some ⟨R, 0, none⟩)] w (Hdo zs w0 w R B lo (hClient zs t x)) := by
  have HBT := Lib.hid hbt
  obtain ⟨a1, a2, a3⟩ := g.ap
  have hRR : w0.heap.size ≤ R := by obtain ⟨o1, _, _⟩ := g.ord; omega
  have hx0 : ∀ y t1, hShares zs t x = some (y, t1) → y.t = 0 ∧ y.m = 0 := by
    intro y t1 h
    unfold hShares at h
    split at h
    · split at h
      · cases h; exact h0
      · cases h
    · cases h
  have hc := hshares_m g hF hbt hlo
  clear g hF hbt
  cases hv1 : hShares zs t x with
  | none =>
    rw [hv1] at hc
    go_enter Tryd.func74, Tryd.ntmps74
    go_wp2_with fail
    refine hc.mono ?_
    rintro e w1 hd
    obtain ⟨he, hk⟩ := hd.dies
    rw [errPanic] at he
    subst he
    go_wp2_with fail
    exact ⟨rfl, .inl ⟨rfl, hk, by unfold hClient; rw [hv1]⟩⟩
  | some y1 =>
    obtain ⟨⟨xk, xr, xs, xt, xm, xf, xp, xn, xv, xl⟩, t1⟩ := y1
    obtain ⟨hxt, hxm⟩ := hx0 _ _ hv1
    simp only at hxt hxm
    subst hxt
    subst hxm
    rw [hv1] at hc
    go_enter Tryd.func74, Tryd.ntmps74
    go_wp2_with fail
    refine hc.mono ?_
    rintro e w1 hd
    obtain ⟨pv1, rfl, hG1, hF1, hk1⟩ := hd.open
    have hc2 := hflag_m hG1 hF1 HBT.out hlo
    clear hc hd hG1 hF1 hx0 h0
    cases hv2 : hFlag zs t1 with
    | none =>
      rw [hv2] at hc2
      simp only [Option.map] at hc2
      go_wp2_with fail
      refine hc2.mono ?_
      rintro e w2 hd
      obtain ⟨he, hk⟩ := hd.dies
      rw [errPanic] at he
      subst he
      go_wp2_with fail
      exact ⟨rfl, .inl ⟨rfl, hk1.trans hk, by unfold hClient; rw [hv1]; simp only; rw [hv2]⟩⟩
    | some y2 =>
      obtain ⟨f, t2⟩ := y2
      rw [hv2] at hc2
      simp only [Option.map] at hc2
      go_wp2_with fail
      refine hc2.mono ?_
      rintro e w2 hd
      obtain ⟨pv2, rfl, hG2, hF2, hk2⟩ := hd.open
      have HG2 := Lib.hid hG2
      have HF2 := Lib.hid hF2
      have HK2 := Lib.hid (hk1.trans hk2)
      have hc3 := hbit_m hG2 hF2 HBT.out
      clear hc2 hd hG2 hF2 hk1 hk2
      go_wp2_with fail
      refine hc3.mono ?_
      rintro e w3 (⟨he, hb3, hn3⟩ | ⟨has, rfl, hv3, hF3, hb3⟩)
      · skip
        rw [errPanic] at he
        subst he
        go_wp2_with fail
        exact ⟨rfl, .inl ⟨rfl, HK2.out.trans (Kq.r hb3), by unfold hClient; rw [hv1]; simp only; rw [hv2]; simp only; rw [hn3]⟩⟩
      · have HG3 := Lib.hid (HG2.out.keep hb3 a1 a3)
        have HK3 := Lib.hid (HK2.out.trans (Kq.r hb3))
        have HF3 := Lib.hid hF3
        clear hc3 hb3 hF3 HG2 HF2 HK2
        cases has with
        | false =>
          have hv4 : hTermIf false zs (t2 + 1) = some (0, t2 + 1) := rfl
          have hc5 := hparams_m HG3.out HF3.out HBT.out hlo
          cases hv5 : hGive zs (t2 + 1) with
          | none =>
            rw [hv5] at hc5
            simp only [Option.map] at hc5
            go_wp2_with fail
            refine hc5.mono ?_
            rintro e w5 hd
            obtain ⟨he, hk⟩ := hd.dies
            rw [errPanic] at he
            subst he
            go_wp2_with fail
            exact ⟨rfl, .inl ⟨rfl, HK3.out.trans hk, by unfold hClient; rw [hv1]; simp only; rw [hv2]; simp only; rw [hv3]; simp only; rw [hv4]; simp only; rw [hv5]⟩⟩
          | some y5 =>
            obtain ⟨p, t5⟩ := y5
            rw [hv5] at hc5
            simp only [Option.map] at hc5
            go_wp2_with fail
            refine hc5.mono ?_
            rintro e w5 hd
            obtain ⟨pv5, rfl, hG5, hF5, hk5⟩ := hd.open
            have hm : hTermIf false zs t5 = some (0, t5) := rfl
            go_wp2_with fail
            go_end0
            exact .inr ⟨_, _, _, rfl, by unfold hClient; rw [hv1]; simp only; rw [hv2]; simp only; rw [hv3]; simp only; rw [hv4]; simp only; rw [hv5]; simp only; rw [hm], hG5, hF5, HK3.out.trans hk5⟩
        | true =>
          have hc4 := hterm_m HG3.out HF3.out
          go_wp2_with fail
          refine hc4.mono ?_
          rintro e w4 (⟨he, hb4, hn4⟩ | ⟨tk, rfl, hv4, hF4, hb4⟩)
          · have hv4 : hTermIf true zs (t2 + 1) = none := hn4
            rw [errPanic] at he
            subst he
            go_wp2_with fail
            exact ⟨rfl, .inl ⟨rfl, HK3.out.trans (Kq.r hb4), by unfold hClient; rw [hv1]; simp only; rw [hv2]; simp only; rw [hv3]; simp only; rw [hv4]⟩⟩
          · have hv4b : hTermIf true zs (t2 + 1) = some (tk, t2 + 1 + 4) := hv4
            have HG4 := Lib.hid (HG3.out.keep hb4 a1 a3)
            have HG5 := Lib.hid (HG4.out.sett tk)
            have HK5 := Lib.hid ((HK3.out.trans (Kq.r hb4)).trans (Kq.l (But.set w4 R 4 (.int .i64 tk))))
            have HF5 := Lib.hid (fq_set (i := 4) (x := .int .i64 tk) hF4 hRR a2)
            obtain ⟨c0, ⟨c1, c2, c3, c4, c5, c6, c7, c8, c9, c10⟩, cf⟩ := HG4.out.cells
            clear hc4 hF4 hb4 HG3 HF3
            have hc5 := hparams_m HG5.out HF5.out HBT.out hlo
            cases hv5 : hGive zs (t2 + 1 + 4) with
            | none =>
              rw [hv5] at hc5
              simp only [Option.map] at hc5
              go_wp2_with fail
              refine hc5.mono ?_
              rintro e w5 hd
              obtain ⟨he, hk⟩ := hd.dies
              rw [errPanic] at he
              subst he
              go_wp2_with fail
              exact ⟨rfl, .inl ⟨rfl, HK5.out.trans hk, by unfold hClient; rw [hv1]; simp only; rw [hv2]; simp only; rw [hv3]; simp only; rw [hv4b]; simp only; rw [hv5]⟩⟩
            | some y5 =>
              obtain ⟨p, t5⟩ := y5
              rw [hv5] at hc5
              simp only [Option.map] at hc5
              go_wp2_with fail
              refine hc5.mono ?_
              rintro e w5 hd
              obtain ⟨pv5, rfl, hG5, hF5, hk5⟩ := hd.open
              have hc6 := hmac_m hG5 hF5 HBT.out hlo
              clear hc5 hd hG5 hF5
              cases hv6 : gTerm zs t5 with
              | none =>
                have hm : hTermIf true zs t5 = none := hv6
                rw [hv6] at hc6
                simp only [Option.map] at hc6
                go_wp2_with fail
                refine hc6.mono ?_
                rintro e w6 hd
                obtain ⟨he, hk⟩ := hd.dies
                rw [errPanic] at he
                subst he
                go_wp2_with fail
                exact ⟨rfl, .inl ⟨rfl, (HK5.out.trans hk5).trans hk, by unfold hClient; rw [hv1]; simp only; rw [hv2]; simp only; rw [hv3]; simp only; rw [hv4b]; simp only; rw [hv5]; simp only; rw [hm]⟩⟩
              | some y6 =>
                obtain ⟨m, t6⟩ := y6
                have hm : hTermIf true zs t5 = some (m, t6) := hv6
                rw [hv6] at hc6
                simp only [Option.map] at hc6
                go_wp2_with fail
                refine hc6.mono ?_
                rintro e w6 hd
                obtain ⟨pv6, rfl, hG6, hF6, hk6⟩ := hd.open
                go_wp2_with fail
                go_end0
                exact .inr ⟨_, _, _, rfl, by unfold hClient; rw [hv1]; simp only; rw [hv2]; simp only; rw [hv3]; simp only; rw [hv4b]; simp only; rw [hv5]; simp only; rw [hm], hG6, hF6, (HK5.out.trans hk5).trans hk6⟩
#print axioms hserver_m
#print axioms hclient_m
end Go.Proofs.YtefcjggmlhoebaaDoor
namespace Go.Proofs.YtefcjggmlhoebaaDoor
open Go Go.RowKit

/-- The fresh message of a kind. -/
def hNew (k : Int) : Hm := ⟨k, 0, 0, 0, 0, false, [], [], 0, 0⟩
theorem hclient_parse (zs : List Int) (t : Nat) : hClient zs t (hNew 1) = hParse zs 1 t := by
  unfold hClient hShares hParse hNew
  rw [if_pos rfl]
  cases gTerm zs t with
  | none => rfl
  | some y =>
  obtain ⟨r, t1⟩ := y
  simp only
  cases gTerm zs t1 with
  | none => rfl
  | some y =>
  obtain ⟨s, t2⟩ := y
  simp only
  cases hFlag zs t2 with
  | none => rfl
  | some y =>
  obtain ⟨f, t3⟩ := y
  simp only
  cases hFlag zs t3 with
  | none => rfl
  | some y =>
  obtain ⟨has, t4⟩ := y
  simp only
  cases hTermIf has zs t4 with
  | none => rfl
  | some y =>
  obtain ⟨tk, t5⟩ := y
  simp only
  cases hGive zs t5 with
  | none => rfl
  | some y =>
  obtain ⟨p, t6⟩ := y
  simp only
  cases hTermIf has zs t6 with
  | none => rfl
  | some y => rfl
theorem hserver_parse (zs : List Int) (t : Nat) : hServer zs t (hNew 2) = hParse zs 2 t := by
  unfold hServer hShares hParse hNew
  rw [if_neg (by decide), if_pos rfl]
  cases gTerm zs t with
  | none => rfl
  | some y =>
  obtain ⟨r, t1⟩ := y
  simp only
  cases gTerm zs t1 with
  | none => rfl
  | some y =>
  obtain ⟨s, t2⟩ := y
  simp only
  cases gBytes zs 4 t2 with
  | none => rfl
  | some y =>
  obtain ⟨v, t3⟩ := y
  simp only
  cases hFlag zs t3 with
  | none => rfl
  | some y => rfl
theorem htick_parse (zs : List Int) (t : Nat) : hTick zs t (hNew 4) = hParse zs 4 t := by
  unfold hTick hParse hNew
  rw [if_neg (by decide), if_neg (by decide), if_pos rfl]
  cases gTerm zs t with
  | none => rfl
  | some y =>
  obtain ⟨r, t1⟩ := y
  simp only
  cases gVar zs t1 with
  | none => rfl
  | some y => rfl
theorem htold_parse (zs : List Int) (t : Nat) : hTold zs t (hNew 8) = hParse zs 8 t := by
  unfold hTold hParse hNew
  rw [if_neg (by decide), if_neg (by decide), if_neg (by decide), if_pos rfl]
  cases hFlag zs t with
  | none => rfl
  | some y =>
  obtain ⟨f, t1⟩ := y
  simp only
  cases hGive zs t1 with
  | none => rfl
  | some y => rfl
theorem hname_parse (zs : List Int) (t : Nat) : some ({ hNew 11 with n := zs.drop t }, max t zs.length) = hParse zs 11 t := by
  unfold hParse hNew
  rw [if_neg (by decide), if_neg (by decide), if_neg (by decide), if_neg (by decide), if_pos rfl]
theorem hmac_parse (zs : List Int) (t : Nat) {k : Int} (hk : k = 15 ∨ k = 20) : ((gTerm zs t).map fun y => ({ hNew k with m := y.1 }, y.2)) = hParse zs k t := by
  unfold hParse hNew
  rw [if_neg (show ¬ k = 1 by omega), if_neg (show ¬ k = 2 by omega), if_neg (show ¬ k = 4 by omega), if_neg (show ¬ k = 8 by omega), if_neg (show ¬ k = 11 by omega), if_pos hk]
  cases gTerm zs t with
  | none => rfl
  | some y => rfl
/-- A kind's method, bound to the reader in R. -/
def fnOf (R : Nat) (n : Int) : Option Value :=
  if n = 1 then some (.func (.func 74) #[.pointer (some ⟨R, 0, none⟩)] #[])
  else if n = 2 then some (.func (.func 75) #[.pointer (some ⟨R, 0, none⟩)] #[])
  else if n = 4 then some (.func (.func 76) #[.pointer (some ⟨R, 0, none⟩)] #[])
  else if n = 8 then some (.func (.func 77) #[.pointer (some ⟨R, 0, none⟩)] #[])
  else if n = 11 then some (.func (.func 78) #[.pointer (some ⟨R, 0, none⟩)] #[])
  else if n = 15 then some (.func (.func 79) #[.pointer (some ⟨R, 0, none⟩)] #[])
  else if n = 20 then some (.func (.func 79) #[.pointer (some ⟨R, 0, none⟩)] #[])
  else none
/-- The state ahead of a body of kind k. -/
structure Hst (zs : List Int) (k : Int) (t : Nat) (w0 w : World) (R B lo : Nat) : Prop where
  g : Hq w R B lo (hNew k) (.slice none 0 0)
  fq : Fq w0 w B (zs.drop t) t 3
  byt : Byt zs
  lo : w0.heap.size ≤ B
/-- A method that can be called, and takes the body of kind n. -/
structure Hme (F : Nat) (n : Int) : Prop where
  ent : ∀ (args : Array Value) (w : World), (callFunc F args).run Tryd.prog w = .ok (.enter F args) w
  does : ∀ (zs : List Int) (t : Nat) (w0 w : World) (R B lo : Nat), Hst zs n t w0 w R B lo → Calls Tryd.prog F #[.pointer (some ⟨R, 0, none⟩)] w (Hdo zs w0 w R B lo (hParse zs n t))
theorem fn_hm {R : Nat} {n : Int} {v : Value} (h : fnOf R n = some v) : ∃ F, v = .func (.func F) #[.pointer (some ⟨R, 0, none⟩)] #[] ∧ Hme F n := by
  unfold fnOf at h
  split at h
  · rename_i e; subst e; cases h
    exact ⟨_, rfl, ⟨enterp Tryd.func74 (by kernel_rfl) (by kernel_rfl), fun zs t _ _ _ _ _ h => by rw [← hclient_parse]; exact hclient_m h.g h.fq h.byt h.lo ⟨rfl, rfl⟩⟩⟩
  split at h
  · rename_i e; subst e; cases h
    exact ⟨_, rfl, ⟨enterp Tryd.func75 (by kernel_rfl) (by kernel_rfl), fun zs t _ _ _ _ _ h => by rw [← hserver_parse]; exact hserver_m h.g h.fq h.byt h.lo⟩⟩
  split at h
  · rename_i e; subst e; cases h
    exact ⟨_, rfl, ⟨enterp Tryd.func76 (by kernel_rfl) (by kernel_rfl), fun zs t _ _ _ _ _ h => by rw [← htick_parse]; exact htick_m h.g h.fq h.byt h.lo⟩⟩
  split at h
  · rename_i e; subst e; cases h
    exact ⟨_, rfl, ⟨enterp Tryd.func77 (by kernel_rfl) (by kernel_rfl), fun zs t _ _ _ _ _ h => by rw [← htold_parse]; exact htold_m h.g h.fq h.byt h.lo⟩⟩
  split at h
  · rename_i e; subst e; cases h
    exact ⟨_, rfl, ⟨enterp Tryd.func78 (by kernel_rfl) (by kernel_rfl), fun zs t _ _ _ _ _ h => by rw [← hname_parse]; exact hname_m h.g h.fq h.byt h.lo⟩⟩
  split at h
  · rename_i e; subst e; cases h
    exact ⟨_, rfl, ⟨enterp Tryd.func79 (by kernel_rfl) (by kernel_rfl), fun zs t _ _ _ _ _ h => by rw [← hmac_parse zs t (.inl rfl)]; exact hmac_m h.g h.fq h.byt h.lo⟩⟩
  split at h
  · rename_i e; subst e; cases h
    exact ⟨_, rfl, ⟨enterp Tryd.func79 (by kernel_rfl) (by kernel_rfl), fun zs t _ _ _ _ _ h => by rw [← hmac_parse zs t (.inr rfl)]; exact hmac_m h.g h.fq h.byt h.lo⟩⟩
  · cases h
theorem fn_none {R : Nat} {n : Int} (h : fnOf R n = none) (zs : List Int) (t : Nat) : hParse zs n t = none := by
  unfold fnOf at h
  unfold hParse
  by_cases h1 : n = 1
  · simp [h1] at h
  by_cases h2 : n = 2
  · simp [h2] at h
  by_cases h4 : n = 4
  · simp [h4] at h
  by_cases h8 : n = 8
  · simp [h8] at h
  by_cases h11 : n = 11
  · simp [h11] at h
  by_cases h15 : n = 15
  · simp [h15] at h
  by_cases h20 : n = 20
  · simp [h20] at h
  simp [h1, h2, h4, h8, h11, h15, h20]
set_option maxRecDepth 20000 in
set_option maxHeartbeats 2000000 in
theorem bodies_any (w : World) (R : Nat) : Calls Tryd.prog 61 #[.pointer (some ⟨R, 0, none⟩)] w fun e w' => e = .returned (.map (some w.heap.size)) ∧ MapF w' w.heap.size 7 (fnOf R) ∧ Below w.heap.size w w' := by
  have hm := made_run w
  have m0 := MapF.made w
  have b0 := below_alloc w (.map #[] 0)
  obtain ⟨w1, r1, m1, g1⟩ := m0.update (by unfold maxLen; omega) (wfM (k := 1) (by omega) (by omega)) (.func 74) #[.pointer (some ⟨R, 0, none⟩)] #[]
  obtain ⟨w2, r2, m2, g2⟩ := m1.update (by unfold maxLen; omega) (wfM (k := 2) (by omega) (by omega)) (.func 75) #[.pointer (some ⟨R, 0, none⟩)] #[]
  obtain ⟨w3, r3, m3, g3⟩ := m2.update (by unfold maxLen; omega) (wfM (k := 4) (by omega) (by omega)) (.func 76) #[.pointer (some ⟨R, 0, none⟩)] #[]
  obtain ⟨w4, r4, m4, g4⟩ := m3.update (by unfold maxLen; omega) (wfM (k := 8) (by omega) (by omega)) (.func 77) #[.pointer (some ⟨R, 0, none⟩)] #[]
  obtain ⟨w5, r5, m5, g5⟩ := m4.update (by unfold maxLen; omega) (wfM (k := 11) (by omega) (by omega)) (.func 78) #[.pointer (some ⟨R, 0, none⟩)] #[]
  obtain ⟨w6, r6, m6, g6⟩ := m5.update (by unfold maxLen; omega) (wfM (k := 15) (by omega) (by omega)) (.func 79) #[.pointer (some ⟨R, 0, none⟩)] #[]
  obtain ⟨w7, r7, m7, g7⟩ := m6.update (by unfold maxLen; omega) (wfM (k := 20) (by omega) (by omega)) (.func 79) #[.pointer (some ⟨R, 0, none⟩)] #[]
  have one : ∀ k, some w.heap.size = some k → w.heap.size ≤ k := fun k e => by cases e; exact Nat.le_refl _
  have b1 := b0.grown g1 b0.size one
  have b2 := b1.grown g2 b1.size one
  have b3 := b2.grown g3 b2.size one
  have b4 := b3.grown g4 b3.size one
  have b5 := b4.grown g5 b4.size one
  have b6 := b5.grown g6 b5.size one
  have b7 := b6.grown g7 b6.size one
  have HM := Lib.hid m7
  have HB := Lib.hid b7
  clear m0 m1 m2 m3 m4 m5 m6 m7 b0 b1 b2 b3 b4 b5 b6 b7 g1 g2 g3 g4 g5 g6 g7 one
  go_enter Tryd.func61, Tryd.ntmps61
  go_wp2_with fail
  go_ret
  refine ⟨rfl, (HM.out).ext fun k => ?_, HB.out⟩
  unfold fnOf
  by_cases h1 : k = 1
  · subst h1; simp
  by_cases h2 : k = 2
  · subst h2; simp
  by_cases h4 : k = 4
  · subst h4; simp
  by_cases h8 : k = 8
  · subst h8; simp
  by_cases h11 : k = 11
  · subst h11; simp
  by_cases h15 : k = 15
  · subst h15; simp
  by_cases h20 : k = 20
  · subst h20; simp
  simp [h1, h2, h4, h8, h11, h15, h20]
#print axioms fn_hm
#print axioms bodies_any
end Go.Proofs.YtefcjggmlhoebaaDoor
