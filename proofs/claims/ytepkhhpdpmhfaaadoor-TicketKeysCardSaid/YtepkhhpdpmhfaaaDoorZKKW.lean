/- ticket's write: the three numbers' bytes, in new memory; none, if one of them is none. The document's text of a ticket. -/
import Derived.Test.YtepkhhpdpmhfaaaDoorZKMint
import Derived.Test.YtepkhhpdpmhfaaaDoorZKTk
namespace Go.Proofs.YtepkhhpdpmhfaaaDoor
open Go Go.RowKit

/-- May a ticket be? -/
def tickOk (v t l : Int) : Bool := !(sz v == 0) && !(sz t == 0) && !(sz l == 0)
def tickT (v t l : Int) : List Int := if tickOk v t l then tickB v t l else []
theorem tickT_ok {v t l : Int} (h : tickOk v t l = true) : tickT v t l = tickB v t l := if_pos h
theorem tickT_no {v t l : Int} (h : tickOk v t l = false) : tickT v t l = [] := by unfold tickT; rw [h]; rfl
/-- What write tells. -/
def WkP (w w' : World) (e : Ending) (ok : Bool) (zs : List Int) : Prop :=
  ∃ v', e = .returned (.tuple #[v', .bool ok]) ∧ (if ok then w'.ownsRow w.heap.size 5 1 v' zs.length (by8 zs) else v' = .slice none 0 0) ∧ Below w.heap.size w w'
/-- The numbers, by their places; the bytes of the first ones. -/
def el3 (v t l : Int) (k : Nat) : Int := if k = 0 then v else if k = 1 then t else l
def pre3 (v t l : Int) (k : Nat) : List Int := if k = 0 then [] else if k = 1 then enc v else if k = 2 then enc v ++ enc t else enc v ++ enc t ++ enc l
theorem pre3_step (v t l : Int) {k : Nat} (h : k < 3) : pre3 v t l k ++ enc (el3 v t l k) = pre3 v t l (k + 1) := by
  rcases (by omega : k = 0 ∨ k = 1 ∨ k = 2) with rfl | rfl | rfl <;> simp [pre3, el3]
theorem pre3_len (v t l : Int) (k : Nat) : (pre3 v t l k).length ≤ 24 := by
  have := enc_len v
  have := enc_len t
  have := enc_len l
  unfold pre3
  split
  · simp
  · split
    · omega
    · split <;> (simp only [List.length_append]; omega)
theorem pre3_byt (v t l : Int) (k : Nat) : Byt (pre3 v t l k) := by
  unfold pre3
  split
  · exact Byt.nil
  · split
    · exact enc_byt v
    · split
      · exact (enc_byt v).app (enc_byt t)
      · exact ((enc_byt v).app (enc_byt t)).app (enc_byt l)
set_option maxRecDepth 20000 in
theorem idx3 (v t l : Int) {k : Nat} (h : k < 3) : ∀ w, (Instr.index 71 (.agg #[.int .i64 v, .int .i64 t, .int .i64 l]) (.int .i64 k)).run Tryd.prog w = .ok (.int .i64 (el3 v t l k)) w := by
  rcases (by omega : k = 0 ∨ k = 1 ∨ k = 2) with rfl | rfl | rfl
  · exact fun w => by kernel_rfl
  · exact fun w => by kernel_rfl
  · exact fun w => by kernel_rfl
set_option maxRecDepth 20000 in
set_option maxHeartbeats 1000000 in
theorem kwrite_any {w : World} {v t l : Int} (ht : Tab w) (hw : 1 < w.heap.size) :
    Calls Tryd.prog 27 #[.agg #[.int .i64 v, .int .i64 t, .int .i64 l]] w fun e w' => WkP w w' e (tickOk v t l) (tickB v t l) := by
  have hbW := below_alloc w (.cells #[.int .i64 v, .int .i64 t, .int .i64 l] 71)
  have H := Lib.hid (And.intro ht (And.intro hw hbW))
  clear ht hw hbW
  go_enter Tryd.func27, Tryd.ntmps27
  go_wp2_with fail
  go_loopw [4, 8] (fun b i wr => ∃ k : Nat, k ≤ 3 ∧ i = .int .i64 k ∧ Hid (∀ q, q < k → sz (el3 v t l q) ≠ 0) ∧ Hid (wr.ownsRow w.heap.size 5 1 b (pre3 v t l k).length (by8 (pre3 v t l k))) ∧ Hid (Below w.heap.size w wr)) (fun _ i _ => 3 - (intOf i).toNat)
  case atStart => exact ⟨0, by omega, rfl, Lib.hid (fun q h => absurd h (by omega)), Lib.hid (own_none _ _), Lib.hid H.out.2.2⟩
  case round =>
    obtain ⟨k, hk, rfl, hz, ho, hb⟩ := hrel
    by_cases hlt : k < 3
    · have hi := idx3 v t l hlt
      have hlt' : (k : Int) < 3 := by omega
      have c1 := size_any (el3 v t l k) wr
      have HE := Lib.hid (pre3_step v t l hlt)
      by_cases h0 : sz (el3 v t l k) = 0
      · have q0 : (sz (el3 v t l k) == 0) = true := by simp [h0]
        have HT : Hid (tickOk v t l = false) := Lib.hid (by
          unfold tickOk
          rcases (by omega : k = 0 ∨ k = 1 ∨ k = 2) with rfl | rfl | rfl <;> simp [el3] at h0 <;> simp [h0])
        clear h0 hlt ho hz
        go_wp2_with fail
        refine c1.mono ?_
        rintro e w1 ⟨rfl, rfl⟩
        clear c1
        go_wp2_with fail
        go_ret2
        rw [HT.out]
        exact ⟨_, rfl, rfl, hb.out⟩
      · have q0 : (sz (el3 v t l k) == 0) = false := by simp [h0]
        have HZ : Hid (∀ q, q < k + 1 → sz (el3 v t l q) ≠ 0) := Lib.hid (fun q hq => by
          by_cases e : q = k
          · subst e; exact h0
          · exact hz.out q (by omega))
        have r1 := (Rd.of_own ho.out (pre3_byt v t l k)).1
        obtain ⟨ab, cb, rfl⟩ := r1.shape'
        have c2 := append_any r1 (by have := pre3_len v t l k; omega) (el3 v t l k) (H.out.1.below hb.out) (by have := hb.out.size; have := H.out.2.1; omega)
        clear h0 hz ho r1
        go_wp2_with fail
        refine c1.mono ?_
        rintro e w1 ⟨rfl, rfl⟩
        clear c1
        go_wp2_with fail
        refine c2.mono ?_
        rintro e w2 ⟨v2, rfl, o2, b2⟩
        have HO : Hid (w2.ownsRow w.heap.size 5 1 v2 (pre3 v t l (k + 1)).length (by8 (pre3 v t l (k + 1)))) := Lib.hid (by
          rw [← HE.out, List.length_append]
          exact own_mono o2 hb.out.size)
        have HB2 := Lib.hid (hb.out.trans (b2.mono hb.out.size))
        clear c2 o2 b2
        go_wp2_with fail
        go_round
        case rel => exact ⟨k + 1, by omega, by go_num, HZ, HO, HB2⟩
        case measure => simp [intOf]; omega
    · obtain rfl : k = 3 := by omega
      have HT : Hid (tickOk v t l = true) := Lib.hid (by
        unfold tickOk
        have z0 := hz.out 0 (by omega)
        have z1 := hz.out 1 (by omega)
        have z2 := hz.out 2 (by omega)
        simp [el3] at z0 z1 z2
        simp [z0, z1, z2])
      have HO : Hid (wr.ownsRow w.heap.size 5 1 u4 (tickB v t l).length (by8 (tickB v t l))) := Lib.hid (by
        have := ho.out
        simpa [pre3, tickB, List.append_assoc] using this)
      obtain ⟨ab, cb, rfl⟩ := (Rd.of_own ho.out (pre3_byt v t l 3)).1.shape'
      clear ho hz
      go_wp2_with fail
      go_ret2
      rw [HT.out]
      exact ⟨_, rfl, HO.out, hb.out⟩
#print axioms kwrite_any
end Go.Proofs.YtepkhhpdpmhfaaaDoor
