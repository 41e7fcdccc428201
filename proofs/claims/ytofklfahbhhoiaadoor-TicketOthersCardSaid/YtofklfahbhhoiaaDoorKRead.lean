/- token's read: a closure tells the numbers one behind the other; what it tells of bytes is tokQ. -/
import Derived.Test.YtofklfahbhhoiaaDoorKC4
import Derived.Test.YtofklfahbhhoiaaDoorKPure
namespace Go.Proofs.YtofklfahbhhoiaaDoor
open Go Go.RowKit

/-- The bytes' box: what is left, read in w0. -/
structure Bx (w0 w : World) (B : Nat) (v : Value) (zs : List Int) : Prop where
  bel : Below w0.heap.size w0 w
  lo : w0.heap.size ≤ B
  bx : w.heap[B]? = some (.cells #[v] 22 (0, 0))
  rd : Rd w0 v zs
  pl : Plain v
theorem Bx.cells {w0 w : World} {B : Nat} {v : Value} {zs : List Int} (h : Bx w0 w B v zs) : w.cell? ⟨B, 0, none⟩ = some v ∧ w.frozen? ⟨B, 0, none⟩ = false ∧ B < w.heap.size :=
  ⟨(cell_of_row _ B 0 _ _ (0, 0) h.bx).trans rfl, by simp [World.frozen?, h.bx], (Array.getElem?_eq_some_iff.1 h.bx).1⟩
theorem Bx.set {w0 w : World} {B : Nat} {v v' : Value} {zs zs' : List Int} (h : Bx w0 w B v zs) (hr : Rd w0 v' zs') (hp : Plain v') : Bx w0 (w.setCell ⟨B, 0, none⟩ v') B v' zs' := by
  refine ⟨h.bel.setCell (p := ⟨B, 0, none⟩) h.lo _, h.lo, ?_, hr, hp⟩
  have e := heap_setCell_same w B 0 _ _ v' h.bx
  simpa using e
theorem Rd.shape {w : World} {v : Value} {zs : List Int} (h : Rd w v zs) : ∃ ao cap, v = .slice ao zs.length cap := by obtain ⟨ao, cap, hv, _⟩ := h; exact ⟨ao, cap, hv⟩
/-- One number is cut off. -/
def Nx (w0 w w' : World) (B : Nat) (zs : List Int) : Prop := ∃ v', Bx w0 w' B v' zs ∧ But B w w'
set_option maxRecDepth 20000 in
set_option maxHeartbeats 1000000 in
theorem next_any {w0 w : World} {B : Nat} {v : Value} {zs : List Int} (h : Bx w0 w B v zs) :
    Calls Tryd.prog 51 #[.pointer (some ⟨B, 0, none⟩)] w fun e w' => e = .returned (.int .i64 (nextP zs).1) ∧ Nx w0 w w' B (nextP zs).2 := by
  obtain ⟨c0, cf, hB⟩ := h.cells
  have hr := h.rd
  have hp := h.pl
  obtain ⟨s, hs, hsl⟩ := rd_bound hr.byt
  obtain ⟨ao, cap, rfl⟩ := hr.shape
  have c1 := read_any (hr.below h.bel)
  have e : nextP zs = ((rd zs).1, zs.drop s) := by unfold nextP; rw [hs]; rfl
  rw [hs] at c1
  rw [e]
  obtain ⟨_, _, hv, hc1, hc2, _⟩ := (show Rd w0 (.slice ao zs.length cap) zs from hr)
  simp only [Value.slice.injEq] at hv
  obtain ⟨rfl, _, rfl⟩ := hv
  have hcm : cap ≤ 9223372036854775807 := by unfold maxLen at hc2; omega
  have H := Lib.hid h
  have HR := Lib.hid (And.intro hr hp)
  have hl : (zs.drop s).length = zs.length - s := by simp
  have hd : (zs.drop s).take (zs.length - s) = zs.drop s := List.take_of_length_le (by simp)
  have HP1 := Lib.hid (rd_part HR.out.1 HR.out.2 s (zs.length - s) (by omega))
  have HP2 := Lib.hid (fun hc => rd_part0 HR.out.1 HR.out.2 s (zs.length - s) (by omega) hc)
  rw [hd] at HP1 HP2
  clear hs e h hr hp hc2 hl hd
  go_enter Tryd.func51, Tryd.ntmps51
  go_wp2_with (go_at_call 52; refine c1.mono ?_; rintro e w' ⟨rfl, rfl⟩)
  · go_ret
    exact ⟨rfl, _, H.out.set (HP2.out ‹_›).1 (HP2.out ‹_›).2, But.set _ _ _ _⟩
  · go_ret
    exact ⟨rfl, _, H.out.set HP1.out.1 HP1.out.2, But.set _ _ _ _⟩
/-- What read tells. -/
def RdP (w w' : World) (e : Ending) : Option (Bool × Int × Int × List Int) → Prop
  | none => e = .returned (.tuple #[.agg #[.bool false, .int .i64 0, .int .i64 0, .slice none 0 0], .bool false]) ∧ Below w.heap.size w w'
  | some (l, a, t, nm) => ∃ vn, e = .returned (.tuple #[.agg #[.bool l, .int .i64 a, .int .i64 t, vn], .bool true]) ∧ Rd w' vn nm ∧ Below w.heap.size w w'
theorem nextP_len (zs : List Int) : (nextP zs).2.length ≤ zs.length := by unfold nextP; simp
theorem tokQ_of {zs : List Int} {k a c : Int × List Int} {t : List Int × List Int × Int} (hk : nextP zs = k) (ha : nextP k.2 = a) (hc : nextP a.2 = c) (ht : tk c.2 = t) :
    tokQ zs = if t.2.2 ≠ 0 ∨ 1 < k.1 ∨ 20 < t.1.length ∨ 0 < t.2.1.length then none else some (decide (k.1 = 1), a.1, c.1, t.1) := by
  subst hk; subst ha; subst hc; subst ht; rfl
set_option maxRecDepth 20000 in
set_option maxHeartbeats 1000000 in
theorem tread_any {w : World} {ao : Option Addr} {cap : Nat} {zs : List Int} (h : Rd w (.slice ao zs.length cap) zs) (hp : Plain (.slice ao zs.length cap)) (hl : zs.length ≤ 2048) :
    Calls Tryd.prog 40 #[.slice ao zs.length cap] w fun e w' => RdP w w' e (tokQ zs) := by
  obtain ⟨k, hk⟩ : ∃ k, nextP zs = k := ⟨_, rfl⟩
  obtain ⟨a, ha⟩ : ∃ a, nextP k.2 = a := ⟨_, rfl⟩
  obtain ⟨c, hc⟩ : ∃ c, nextP a.2 = c := ⟨_, rfl⟩
  obtain ⟨t, ht⟩ : ∃ t, tk c.2 = t := ⟨_, rfl⟩
  have HQ := Lib.hid (tokQ_of hk ha hc ht)
  have hcl : c.2.length ≤ 100000 := by
    have h1 := nextP_len zs
    have h2 := nextP_len k.2
    have h3 := nextP_len a.2
    rw [hk] at h1; rw [ha] at h2; rw [hc] at h3
    omega
  have HL := Lib.hid hcl
  have HK := Lib.hid hk
  have HA := Lib.hid ha
  have HC := Lib.hid hc
  have HT := Lib.hid ht
  obtain ⟨kn, ks⟩ := k
  obtain ⟨an, az⟩ := a
  obtain ⟨cn, cs'⟩ := c
  obtain ⟨t1, t2, te⟩ := t
  simp only at HQ HL HK HA HC HT
  have b0 : Bx w ((w.alloc (.cells #[.slice ao zs.length cap] 22)).alloc (.cells #[.bool false, .int .i64 0, .int .i64 0, .slice none 0 0] 32)) w.heap.size (.slice ao zs.length cap) zs :=
    ⟨((Below.refl w.heap.size w).alloc (Nat.le_refl _) _).alloc (by simp) _, Nat.le_refl _, by rw [(below_alloc _ _).block _ (by simp)]; exact heap_alloc_new _ _, h, hp⟩
  have r0 := Lib.hid (heap_alloc_new (w.alloc (.cells #[.slice ao zs.length cap] 22)) (.cells #[.bool false, .int .i64 0, .int .i64 0, .slice none 0 0] 32))
  have s0 := Lib.hid (show w.heap.size + 1 < ((w.alloc (.cells #[.slice ao zs.length cap] 22)).alloc (.cells #[.bool false, .int .i64 0, .int .i64 0, .slice none 0 0] 32)).heap.size by simp)
  rw [show (w.alloc (.cells #[.slice ao zs.length cap] 22)).heap.size = w.heap.size + 1 by simp] at r0
  have n1 := next_any b0
  rw [HK.out] at n1
  clear h hp hl hk ha hc ht hcl b0
  go_enter Tryd.func40, Tryd.ntmps40
  go_wp2_with fail
  refine n1.mono ?_
  rintro e w1 ⟨rfl, v1, b1, u1⟩
  have n2 := next_any b1
  rw [HA.out] at n2
  have U1 := Lib.hid u1
  clear n1 b1 u1
  go_wp2_with fail
  refine n2.mono ?_
  rintro e w2 ⟨rfl, v2, b2, u2⟩
  have n3 := next_any b2
  rw [HC.out] at n3
  have U2 := Lib.hid (U1.out.trans u2)
  clear n2 b2 u2 U1
  go_wp2_with fail
  refine n3.mono ?_
  rintro e w3 ⟨rfl, v3, b3, u3⟩
  obtain ⟨c0, cf, hB⟩ := b3.cells
  have n4 := take_any (b3.rd.below b3.bel) HL.out
  rw [HT.out] at n4
  have U3 := Lib.hid (U2.out.trans u3)
  have B3 := Lib.hid b3.bel
  clear n3 b3 u3 U2
  go_wp2_with fail
  refine n4.mono ?_
  rintro e w4 ⟨v4, v5, rfl, g4, g5, b4⟩
  obtain ⟨a4, p4, rfl⟩ := g4.shape
  obtain ⟨a5, p5, rfl⟩ := g5.shape
  have R4 : w4.heap[w.heap.size + 1]? = some (.cells #[.bool false, .int .i64 0, .int .i64 0, .slice none 0 0] 32 (0, 0)) := by
    have z := U3.out.size
    rw [b4.block _ (by have := s0.out; omega), U3.out.block _ s0.out (by omega)]
    exact r0.out
  have RR := Lib.hid R4
  have G4 := Lib.hid g4
  have B4 := Lib.hid (B3.out.trans (b4.mono B3.out.size))
  obtain ⟨m0, m1, m2, m3, mf⟩ := cells4 R4
  clear R4 n4 b4 U3 B3 s0 r0 c0 cf hB g4 g5
  have no : ∀ (h : te ≠ 0 ∨ 1 < kn ∨ 20 < t1.length ∨ 0 < t2.length), tokQ zs = none := fun h => by rw [HQ.out, if_pos h]
  have NO := Lib.hid no
  clear no
  by_cases q1 : te = 0
  · subst q1
    by_cases q2 : 1 < kn
    · have HN := Lib.hid (NO.out (.inr (.inl q2)))
      go_wp2_with fail
      refine bodyPost_ret (res_token_read _ _ (w.heap.size + 1) _ _ _ _ _ rfl rfl (chain4_row RR.out _ _ _ _)) rfl ?_
      rw [HN.out]
      exact ⟨rfl, (chain4_but _ _ _ _ _ _).below B4.out (by omega)⟩
    · by_cases q3 : 20 < t1.length
      · have HN := Lib.hid (NO.out (.inr (.inr (.inl q3))))
        have q3' : 20 < (t1.length : Int) := by omega
        go_wp2_with fail
        refine bodyPost_ret (res_token_read _ _ (w.heap.size + 1) _ _ _ _ _ rfl rfl (chain4_row RR.out _ _ _ _)) rfl ?_
        rw [HN.out]
        exact ⟨rfl, (chain4_but _ _ _ _ _ _).below B4.out (by omega)⟩
      · have q3' : ¬ 20 < (t1.length : Int) := by omega
        by_cases q4 : 0 < t2.length
        · have HN := Lib.hid (NO.out (.inr (.inr (.inr q4))))
          have q4' : 0 < (t2.length : Int) := by omega
          go_wp2_with fail
          refine bodyPost_ret (res_token_read _ _ (w.heap.size + 1) _ _ _ _ _ rfl rfl (chain4_row RR.out _ _ _ _)) rfl ?_
          rw [HN.out]
          exact ⟨rfl, (chain4_but _ _ _ _ _ _).below B4.out (by omega)⟩
        · have HN : Hid (tokQ zs = some (decide (kn = 1), an, cn, t1)) := Lib.hid (by rw [HQ.out, if_neg (show ¬ ((0 : Int) ≠ 0 ∨ 1 < kn ∨ 20 < t1.length ∨ 0 < t2.length) by omega)])
          have q4' : ¬ 0 < (t2.length : Int) := by omega
          go_wp2_with fail
          refine bodyPost_ret (res_token_read _ _ (w.heap.size + 1) _ _ _ _ _ rfl rfl (chain4_row RR.out _ _ _ _)) rfl ?_
          rw [HN.out]
          refine ⟨_, rfl, G4.out.but (chain4_but _ _ _ _ _ _) RR.out ?_, (chain4_but _ _ _ _ _ _).below B4.out (by omega)⟩
          intro c e f hc x hx z
          cases hc
          simp at hx
          rcases hx with rfl | rfl | rfl | rfl <;> simp
  · have q1' : (te != 0) = true := bne_iff_ne.2 q1
    have HN := Lib.hid (NO.out (.inl q1))
    go_wp2_with fail
    refine bodyPost_ret (res_token_read _ _ (w.heap.size + 1) _ _ _ _ _ rfl rfl (chain4_row RR.out _ _ _ _)) rfl ?_
    rw [HN.out]
    exact ⟨rfl, (chain4_but _ _ _ _ _ _).below B4.out (by omega)⟩
#print axioms tread_any
end Go.Proofs.YtofklfahbhhoiaaDoor
