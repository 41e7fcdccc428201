/- What waits for a term is asked again. -/
import Derived.Test.YtmplcibaoanlnaaMgG
namespace Go.Proofs.Ytmplcibaoanlnaa
open Go Go.RowKit

theorem foldl_take {α : Type} (f : α → Int → α) (a : α) (l : List Int) (j : Nat) (h : j < l.length) : (l.take (j + 1)).foldl f a = f ((l.take j).foldl f a) (l.getD j 0) := by
  rw [take_succ_getD l j h, List.foldl_append]; rfl
theorem Room.step {N : List Nd} (hN : Wf N) {S : MS} {m : Nat} (h : Room S m) (x : Int) : Room (wakeStep N S x) (m + 2) := by
  unfold wakeStep
  split
  · exact h.mono (by omega)
  · exact h.ask x _ _ fun e => (hN.two x e).1
theorem Room.wakes {N : List Nd} (hN : Wf N) {S : MS} {m : Nat} (h : Room S m) (l : List Int) : Room (l.foldl (wakeStep N) S) (m + 2 * l.length) := by
  induction l generalizing S m with
  | nil => exact h
  | cons x r ih =>
    have := ih (h.step hN x)
    simp only [List.foldl_cons, List.length_cons]
    exact this.mono (by omega)
theorem Inr.step {N : List Nd} {S : MS} (h : Inr N.length S) {x : Int} (hx : 1 ≤ x ∧ x ≤ (N.length : Int)) : Inr N.length (wakeStep N S x) := by
  unfold wakeStep
  split
  · exact h
  · exact h.ask hx _ _
theorem Inr.steps {N : List Nd} {S : MS} (h : Inr N.length S) {l : List Int} (hl : ∀ x ∈ l, 1 ≤ x ∧ x ≤ (N.length : Int)) : Inr N.length (l.foldl (wakeStep N) S) := by
  induction l generalizing S with
  | nil => exact h
  | cons x r ih => exact ih (h.step (hl x (by simp))) fun y hy => hl y (by simp [hy])
theorem Room.clear1 {S : MS} {m : Nat} (h : Room S m) (k : Int) : Room { S with waits := up S.waits k [] } m := ⟨h.shut, fun j => by
  show (up S.waits k [] j).length ≤ m
  unfold up
  split
  · exact Nat.zero_le _
  · exact h.waits j, h.news⟩
theorem Room.clear0 {S : MS} {m : Nat} (h : Room S m) (k : Int) : Room { S with shut := up S.shut k [] } m := ⟨fun j => by
  show (up S.shut k [] j).length ≤ m
  unfold up
  split
  · exact Nat.zero_le _
  · exact h.shut j, h.waits, h.news⟩
theorem Inr.clear1 {n : Nat} {S : MS} (h : Inr n S) (k : Int) : Inr n { S with waits := up S.waits k [] } := ⟨h.st0, h.stb, h.sh0, h.shut, fun j x hx => by
  by_cases e : j = k
  · simp [e, up_same] at hx
  · simp only [up_other _ _ e] at hx; exact h.waits j x hx, h.news⟩
theorem Inr.clear0 {n : Nat} {S : MS} (h : Inr n S) (k : Int) : Inr n { S with shut := up S.shut k [] } := ⟨h.st0, h.stb, h.sh0, fun j x hx => by
  by_cases e : j = k
  · simp [e, up_same] at hx
  · simp only [up_other _ _ e] at hx; exact h.shut j x hx, h.waits, h.news⟩

/-- A row is taken out of its map: it is the mind's no more. -/
theorem LW.drop {c : Fx} {N : List Nd} {w w3 : World} {F : Nat → Prop} {r : Nat → Int → Option Value} {S S' : MS} (h : LW c N w F r S) (b0 : Nat) (k0 : Int) (ch : Nat) (hb : (b0 = 0 ∧ ch = c.m3) ∨ (b0 = 1 ∧ ch = c.m4))
    (h3 : w.grownBy w3 (some ch)) (hm : MapG w3 ch (fun j => if j = k0 then none else r b0 j))
    (hst : S'.st = S.st) (hsh : S'.sh = S.sh) (hr : ∀ b k, (b ≠ b0 ∨ k ≠ k0) → lst S' b k = lst S b k) (hx : lst S' b0 k0 = []) (hin : Inr N.length S') :
    LW c N w3 (fun k => F k ∧ (val r b0 k0).ownBlock ≠ some k) (rset r b0 k0 none) S' ∧ Stp F w (fun k => F k ∧ (val r b0 k0).ownBlock ≠ some k) w3 ∧ OutR (fun k => F k ∧ (val r b0 k0).ownBlock ≠ some k) w3 (val r b0 k0) (lst S b0 k0) := by
  have hM := h.mnd
  have hne := hM.ne
  have hch : ch ≠ c.M ∧ ch ≠ c.m1 ∧ ch ≠ c.m2 ∧ (∀ b j, (val r b j).ownBlock ≠ some ch) ∧ F ch := by
    rcases hb with ⟨_, rfl⟩ | ⟨_, rfl⟩
    · exact ⟨fun e => hM.out (e ▸ hM.f3), hne.2.1.symm, hne.2.2.2.1.symm, fun b j e => (hM.row_ne e).2.2.1 rfl, hM.f3⟩
    · exact ⟨fun e => hM.out (e ▸ hM.f4), hne.2.2.1.symm, hne.2.2.2.2.1.symm, fun b j e => (hM.row_ne e).2.2.2.1 rfl, hM.f4⟩
  have g : Below 0 w w3 := (Below.refl 0 w).grown h3 (Nat.zero_le _) fun k _ => Nat.zero_le _
  have keep : ∀ k, k < w.heap.size → k ≠ ch → w3.heap[k]? = w.heap[k]? := fun k hk hn => h3.block k hk (fun e => hn (Option.some.inj e))
  have m3 : MapG w3 c.m3 (rset r b0 k0 none 0) := by
    rcases hb with ⟨rfl, rfl⟩ | ⟨rfl, rfl⟩
    · exact hm.congr fun k => by simp [rset]
    · exact (hM.shut.keep (keep _ hM.shut.lt hne.2.2.2.2.2)).congr fun k => by simp [rset]
  have m4 : MapG w3 c.m4 (rset r b0 k0 none 1) := by
    rcases hb with ⟨rfl, rfl⟩ | ⟨rfl, rfl⟩
    · exact (hM.waits.keep (keep _ hM.waits.lt hne.2.2.2.2.2.symm)).congr fun k => by simp [rset]
    · exact hm.congr fun k => by simp [rset]
  have hstp : Stp F w (fun k => F k ∧ (val r b0 k0).ownBlock ≠ some k) w3 := ⟨g.os, g.tape, g.output, g.size, fun k hk hn => keep k hk (fun e => hn (e ▸ hch.2.2.2.2)), fun k hk => .inl hk.1⟩
  have hb2 : b0 ≠ 2 := by rcases hb with ⟨rfl, _⟩ | ⟨rfl, _⟩ <;> decide
  have hN := h.nb_ne
  have hrowF : ∀ b k, (b ≠ b0 ∨ k ≠ k0) → ∀ gg, (val r b k).ownBlock = some gg → F gg ∧ (val r b0 k0).ownBlock ≠ some gg := fun b k e gg hg => ⟨(hM.rows b k).2 gg hg, fun e2 => by
    obtain ⟨rfl, rfl⟩ := hM.apart _ _ _ _ _ hg e2
    rcases e with e | e <;> exact e rfl⟩
  refine ⟨⟨?_, ?_, fun e => h.boxF e.1, ?_, ⟨h.nbF, hN.2.2.2.2.2 _ _⟩, h.tab.step hstp, hin, h.wf⟩, hstp, ?_⟩
  · exact
    { lt := fun k hk => Nat.lt_of_lt_of_le (hM.lt k hk.1) g.size
      cell := by rw [keep _ (blk_lt hM.cell) (fun e => hch.1 e.symm)]; exact hM.cell
      out := fun e => hM.out e.1
      f1 := ⟨hM.f1, fun e => (hM.row_ne e).1 rfl⟩, f2 := ⟨hM.f2, fun e => (hM.row_ne e).2.1 rfl⟩, f3 := ⟨hM.f3, fun e => (hM.row_ne e).2.2.1 rfl⟩, f4 := ⟨hM.f4, fun e => (hM.row_ne e).2.2.2.1 rfl⟩
      ne := hne
      states := by rw [hst]; exact hM.states.keep (keep _ hM.states.lt (fun e => hch.2.1 e.symm))
      shown := by rw [hsh]; exact hM.shown.keep (keep _ hM.shown.lt (fun e => hch.2.2.1 e.symm))
      shut := m3, waits := m4
      rows := fun b k => by
        by_cases e : b ≠ b0 ∨ k ≠ k0
        · rw [val_not r _ e, hr b k e]
          exact (hM.rows b k).keep (fun gg hg => keep gg ((hM.rows b k).1.lt gg hg).2 (fun e2 => hch.2.2.2.1 b k (e2 ▸ hg))) (hrowF b k e)
        · have e1 : b = b0 := Classical.byContradiction fun e1 => e (.inl e1)
          have e2 : k = k0 := Classical.byContradiction fun e1 => e (.inr e1)
          subst e1; subst e2
          rw [val_del, hx]
          exact .nil _ _
      apart := fun b k b' k' gg hg hg' => by
        have nn : ∀ b k, (val (rset r b0 k0 none) b k).ownBlock = some gg → b ≠ b0 ∨ k ≠ k0 := fun b k hg => by
          by_cases e : b ≠ b0 ∨ k ≠ k0
          · exact e
          · have e1 : b = b0 := Classical.byContradiction fun e1 => e (.inl e1)
            have e2 : k = k0 := Classical.byContradiction fun e1 => e (.inr e1)
            subst e1; subst e2
            rw [val_del] at hg; cases hg
        rw [val_not r _ (nn b k hg)] at hg
        rw [val_not r _ (nn b' k' hg')] at hg'
        exact hM.apart _ _ _ _ _ hg hg' }
  · rw [keep _ (blk_lt h.box) (fun e => h.boxF (e ▸ hch.2.2.2.2))]; exact h.box
  · rw [val_not r _ (.inl fun e => hb2 e.symm), keep _ (blk_lt h.nb) (by rcases hb with ⟨_, rfl⟩ | ⟨_, rfl⟩; exact hN.2.2.2.1; exact hN.2.2.2.2.1)]; exact h.nb
  · have hrow := (hM.rows b0 k0).1
    refine ⟨(Rd.of_own (own_keep hrow fun gg hg => keep gg (hrow.lt gg hg).2 (fun e2 => hch.2.2.2.1 b0 k0 (e2 ▸ hg)))).1, fun hz a n cap e hF => hF.2 ?_⟩
    rcases hrow.2 with ⟨e2, _⟩ | ⟨g2, cap2, cur, e2, _⟩
    · rw [e2] at e; cases e
    · rw [e2] at e; cases e
      rw [e2]; rfl
theorem outR_own {F : Nat → Prop} {w : World} {base : Nat} {v : Value} {n : Nat} {zs : List Int} (h : w.ownsRow base 26 1 v n (cs .i64 zs)) (hF : ∀ k, F k → k < base) : OutR F w v zs := by
  refine ⟨(Rd.of_own h).1, fun _ a m cap e hk => ?_⟩
  have := hF _ hk
  rcases h.2 with ⟨e2, _⟩ | ⟨g2, cap2, cur, e2, hg, _⟩
  · rw [e2] at e; cases e
  · rw [e2] at e; cases e
    simp only at this
    omega
set_option maxHeartbeats 4000000 in
set_option maxRecDepth 20000 in
theorem wake_any {c : Fx} {N : List Nd} {w : World} {F : Nat → Prop} {r : Nat → Int → Option Value} {S : MS} (h : LW c N w F r S) {x : Int} (hx : 1 ≤ x ∧ x ≤ (N.length : Int)) (hroom : Room S 137438953472) :
    Calls Try.prog 49 #[.pointer (some ⟨c.M, 0, none⟩), .int .i64 x, rv c] w fun e w' => e = .returned (.tuple #[]) ∧ After c N w F (wakeP N S x) w' := by
  have hw := h.wf1 hx.1 hx.2
  obtain ⟨_, _, _, _, c4⟩ := h.mnd.fields
  have hl := (h.mnd.rowLook hw).2
  have hmap := h.mnd.waits
  have hsh := own_shape (h.mnd.rows 1 x).1
  obtain ⟨va, vc, hv, _⟩ := hsh
  have hLw : lst S 1 x = S.waits x := rfl
  rw [hv] at hl
  rw [hLw] at hl hv
  have HV := Lib.hid hv
  have HH := Lib.hid h
  have HRM := Lib.hid hroom
  have HIN := Lib.hid (h.inr.waits x)
  have HWk : Hid (wakeP N S x = (S.waits x).foldl (wakeStep N) { S with waits := up S.waits x [] }) := Lib.hid rfl
  have hdrop := fun w3 (h3 : w.grownBy w3 (some c.m4)) hm => h.drop (S' := { S with waits := up S.waits x [] }) 1 x c.m4 (.inr ⟨rfl, rfl⟩) h3 hm rfl rfl (fun b k e => by
    unfold lst
    by_cases e1 : b = 1
    · subst e1
      have hk : k ≠ x := by rcases e with e | e; exact absurd rfl e; exact e
      simp [up_other _ _ hk]
    · simp [e1]) (by simp [lst, up_same]) (h.inr.clear1 x)
  have hdrop' : ∀ w3 (_ : w.grownBy w3 (some c.m4)) (_ : MapG w3 c.m4 (fun j => if j = x then none else r 1 j)), LW c N w3 (fun k => F k ∧ (val r 1 x).ownBlock ≠ some k) (rset r 1 x none) { S with waits := up S.waits x [] } ∧ Stp F w (fun k => F k ∧ (val r 1 x).ownBlock ≠ some k) w3 ∧ OutR (fun k => F k ∧ (val r 1 x).ownBlock ≠ some k) w3 (val r 1 x) (S.waits x) := hdrop
  have HD := Lib.hid hdrop'
  clear hdrop'
  have hlen0 := hroom.waits x
  clear h hx hroom hv hdrop hLw
  generalize S.waits x = l at *
  go_enter Try.func49, Try.ntmps49
  go_wp2_with (at_delete; refine wpList_delG rfl _ _ 78 31 rfl Try.underlying78 hmap hw rfl rfl ?_; intro w1 hm1 hg1)
  obtain ⟨hl1, hs1, ho1⟩ := HD.out w1 hg1 hm1
  rw [HV.out] at hl1 hs1 ho1
  have HL1 := Lib.hid hl1
  have HS1 := Lib.hid hs1
  have HO1 := Lib.hid ho1
  clear hm1 hg1 hl1 hs1 ho1 hmap
  go_loopw [24] (fun i wr => ∃ (j : Nat) (F' : Nat → Prop) (r' : Nat → Int → Option Value), j ≤ l.length ∧ i = .int .i64 j ∧ LW c N wr F' r' ((l.take j).foldl (wakeStep N) { S with waits := up S.waits x [] }) ∧ Stp F w F' wr ∧ OutR F' wr (.slice va l.length vc) l) (fun i _ => l.length - (RowKit.intOf i).toNat)
  case atStart => exact ⟨0, _, _, Nat.zero_le _, rfl, HL1.out, HS1.out, HO1.out⟩
  case round =>
    obtain ⟨j, F', r', hj, rfl, hlw, hs, ho⟩ := hrel
    by_cases hlt : j < l.length
    · have hlt' : (j : Int) < (l.length : Int) := by omega
      rcases ho.rd.cases with ⟨h0, _⟩ | ⟨b, off, cp, e, _, _, hcap, _, hc⟩
      · rw [h0] at hlt; simp at hlt
      · cases e
        have hcj := hc j hlt
        have hy := HIN.out _ (getD_mem hlt)
        have HF := Lib.hid (foldl_take (wakeStep N) { S with waits := up S.waits x [] } l j hlt)
        have hrm : Room ((l.take j).foldl (wakeStep N) { S with waits := up S.waits x [] }) 549755813888 := ((HRM.out.clear1 x).wakes HH.out.wf (l.take j)).mono (by rw [List.length_take]; omega)
        have hwy := hlw.wf1 hy.1 hy.2
        have HRL := Lib.hid hrm
        have HLW := Lib.hid hlw
        have HST := Lib.hid hs
        have HOR := Lib.hid ho
        have HY := Lib.hid hy
        clear hlw hs ho hc hrm
        generalize l.getD j 0 = y at *
        generalize (l.take j).foldl (wakeStep N) { S with waits := up S.waits x [] } = Sj at *
        have hcn := can_any HLW.out.mnd hwy
        have hN0 := HLW.out.mnd.fields.1
        cases hcan : canP Sj y with
        | true =>
          rw [hcan] at hcn
          have HE : Hid (wakeStep N Sj y = Sj) := Lib.hid (by unfold wakeStep; rw [if_pos hcan])
          clear hcan hy hN0
          go_wp2_with (go_at_call 38; refine hcn.mono ?_; rintro e w3 ⟨rfl, rfl⟩)
          go_roundw
          case rel => exact ⟨j + 1, F', r', by omega, by go_num, by rw [HF.out, HE.out]; exact HLW.out, HST.out, HOR.out⟩
          case measure => simp [RowKit.intOf]; omega
        | false =>
          rw [hcan] at hcn
          have HE : Hid (wakeStep N Sj y = askP Sj y (kindN N y) (partsN N y)) := Lib.hid (by unfold wakeStep; rw [if_neg (by simp [hcan])])
          have hlk := HLW.out.tab.look HY.out.1 HY.out.2
          clear hcan hy
          go_wp2_with (first
            | (go_at_call 38; refine hcn.mono ?_; rintro e w3 ⟨rfl, rfl⟩)
            | (go_at_call 31; refine hlk.mono ?_; rintro e w4 ⟨s, pv, rfl, ho4, hb4⟩; obtain ⟨ap, cq, rfl, _⟩ := own_shape ho4))
          have hb5 := hb4.trans ((below_alloc w4 (.cells #[.int .i64 (kindN N y), .string s, .slice ap (partsN N y).length cq] 47)).mono hb4.size)
          have hask := ask_any (s := s) (HLW.out.below hb5) HY.out (outR_own (own_alloc ho4 (.cells #[.int .i64 (kindN N y), .string s, .slice ap (partsN N y).length cq] 47)) HLW.out.mnd.lt) HRL.out
          have HB5 := Lib.hid (Stp.below (F := F') hb5)
          clear ho4 hb4 hb5
          refine hask.mono ?_
          rintro e w6 ⟨rfl, F2, r2, p1, p2⟩
          have HP1 := Lib.hid p1
          have HP2 := Lib.hid (HB5.out.trans p2)
          clear p1 p2 hask
          go_wp2_with fail
          go_roundw
          case rel => exact ⟨j + 1, F2, r2, by omega, by go_num, by rw [HF.out, HE.out]; exact HP1.out, HST.out.trans HP2.out, HOR.out.step HP2.out⟩
          case measure => simp [RowKit.intOf]; omega
    · obtain rfl : j = l.length := by omega
      rw [List.take_length] at hlw
      have HLW := Lib.hid hlw
      have HST := Lib.hid hs
      clear hlw hs ho
      go_wp2_with fail
      go_end0
      exact ⟨rfl, by rw [HWk.out]; exact ⟨F', r', HLW.out, HST.out⟩⟩
end Go.Proofs.Ytmplcibaoanlnaa
