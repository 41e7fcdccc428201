/- The document's stream: the first bytes that are held. -/
import Derived.Test.YtfgjlfcadpmkhaaSRef
namespace Go.Proofs.Ytfgjlfcadpmkhaa
open Go Go.RowKit

/-- The bytes from t on, at most n, until one is not held. -/
def frontL (hl : List (Int × Int)) (t : Int) : Nat → List Int
  | 0 => []
  | n + 1 => if heldL hl t < 0 then [] else heldL hl t :: frontL hl (t + 1) n
theorem frontL_len (hl : List (Int × Int)) : ∀ (n : Nat) (t : Int), (frontL hl t n).length ≤ n := by
  intro n
  induction n with
  | zero => intro t; simp [frontL]
  | succ n ih =>
    intro t
    unfold frontL
    by_cases h : heldL hl t < 0
    · rw [if_pos h]; simp
    · rw [if_neg h]
      have := ih (t + 1)
      simp only [List.length_cons]; omega
theorem held_byte {hl : List (Int × Int)} (h : Byt (hl.map (·.2))) (p : Int) : -1 ≤ heldL hl p ∧ heldL hl p ≤ 255 := by
  induction hl with
  | nil => exact ⟨by rw [heldL_nil]; omega, by rw [heldL_nil]; omega⟩
  | cons x hl ih =>
    rw [heldL_cons]
    by_cases e : x.1 = p
    · rw [if_pos e]
      have := h x.2 (by simp)
      omega
    · rw [if_neg e]
      exact ih fun z hz => h z (by simp only [List.map_cons, List.mem_cons]; exact .inr hz)
theorem frontL_byt {hl : List (Int × Int)} (h : Byt (hl.map (·.2))) : ∀ (n : Nat) (t : Int), Byt (frontL hl t n) := by
  intro n
  induction n with
  | zero => intro t; exact Byt.nil
  | succ n ih =>
    intro t
    unfold frontL
    by_cases hh : heldL hl t < 0
    · rw [if_pos hh]; exact Byt.nil
    · rw [if_neg hh]
      intro z hz
      rcases List.mem_cons.1 hz with rfl | hz
      · have := held_byte h t; omega
      · exact ih (t + 1) z hz
theorem own_shape {w : World} {base n : Nat} {e : TypeId} {v : Value} {xs : List Value} (h : w.ownsRow base e 1 v n xs) : ∃ a c, v = .slice a n c := by
  rcases h.2 with ⟨h1, h2⟩ | ⟨g, cap, cur, h1, _⟩
  · exact ⟨none, 0, by rw [h1, h2]⟩
  · exact ⟨_, _, h1⟩
theorem Rs.below {w w' : World} {R base t : Nat} {av bv : Value} {hl : List (Int × Int)} (h : Rs w R base t av bv hl) (hb : Below w.heap.size w w') : Rs w' R base t av bv hl :=
  ⟨row_keep hb h.box, own_below h.at' hb, own_below h.byte hb, h.byt, h.low⟩

set_option maxRecDepth 20000 in
set_option maxHeartbeats 4000000 in
theorem front_any {w : World} {R base t : Nat} {av bv : Value} {hl : List (Int × Int)} (n : Nat) (h : Rs w R base t av bv hl) (hl0 : hl.length ≤ 1000000) (hn : n ≤ 10000) (ht : t ≤ 2000000000) :
    Calls Try.prog 12 #[.pointer (some ⟨R, 0, none⟩), .int .i64 n] w fun e w' => ∃ v, e = .returned v ∧ w'.ownsRow w.heap.size 5 1 v (frontL hl t n).length (by8 (frontL hl t n)) ∧ Below w.heap.size w w' := by
  have H := Lib.hid h
  have c0 : w.cell? ⟨R, 0, none⟩ = some (.int .i64 t) := (cell_of_row w R 0 _ 31 (0, 0) h.box).trans rfl
  clear h
  go_enter Try.func12, Try.ntmps12
  go_wp2_with fail
  go_loopw [5, 6] (fun ov iv wr => ∃ (k : Nat) (bs : List Int) (oa : Option Addr) (oc : Nat), ov = .slice oa bs.length oc ∧ iv = .int .i64 k ∧ k ≤ n ∧ Hid (Below w.heap.size w wr) ∧ Hid (wr.ownsRow w.heap.size 5 1 (.slice oa bs.length oc) bs.length (by8 bs)) ∧ Hid (frontL hl t n = bs ++ frontL hl (t + k) (n - k)) ∧ bs.length ≤ k) (fun _ iv _ => n - (intOf iv).toNat)
  case atStart => exact ⟨0, [], none, 0, rfl, rfl, Nat.zero_le _, Lib.hid (Below.refl _ _), Lib.hid (World.ownsRow_nil _ _ _ _), Lib.hid (by simp), Nat.le_refl _⟩
  case round =>
    obtain ⟨k, bs, oa, oc, rfl, rfl, hk, hB, hO, hF, hbk⟩ := hrel
    by_cases hlt : k < n
    · have d0 := keepS hB.out c0
      have wt : IntKind.i64.wrap ((t : Int) + (k : Int)) = (t : Int) + (k : Int) := IntWalk.i64_in _ ⟨by omega, by omega⟩
      have hki : (k : Int) < (n : Int) := by omega
      have HH := Lib.hid (held_any ((t : Int) + (k : Int)) (H.out.below hB.out) hl0)
      have hby := held_byte H.out.byt ((t : Int) + (k : Int))
      have hstep : frontL hl ((t : Int) + k) (n - k) = if heldL hl ((t : Int) + k) < 0 then [] else heldL hl ((t : Int) + k) :: frontL hl ((t : Int) + k + 1) (n - (k + 1)) := by
        rw [show n - k = (n - (k + 1)) + 1 by omega]
        rfl
      have HST := Lib.hid hstep
      clear hstep
      generalize hhz : heldL hl ((t : Int) + (k : Int)) = z at *
      clear hhz
      go_wp2_with fail
      refine HH.out.mono ?_
      rintro e w1 ⟨rfl, rfl⟩
      clear HH
      by_cases hz : z < 0
      · go_wp2_with fail
        go_ret
        have hS := HST.out
        rw [if_pos hz] at hS
        have hF' := hF.out
        rw [hS, List.append_nil] at hF'
        rw [hF']
        exact ⟨_, rfl, hO.out, hB.out⟩
      · have wz : IntKind.u8.wrap z = z := by
          simp [IntKind.wrap, IntKind.bits, IntKind.signed]
          omega
        have hlit : Rd (w1.alloc (.cells #[.int .u8 z] 5)) (.slice (some ⟨w1.heap.size, 0, none⟩) 1 1) [z] := Rd.lit w1 [z] (by simp) (fun y hy => by rw [List.mem_singleton.1 hy]; omega)
        have HLT := Lib.hid hlit
        clear hlit
        go_wp2_with (at_builtin; refine wpList_append_bytes (.tmp 24) (.tmp 27) 29 rfl rfl info5 Try.underlying29 w.heap.size _ bs.length bs rfl (own_below hO.out (below_alloc w1 _)) _ [z] rfl HLT.out (by simp; omega) (by have := hB.out.size; simp; omega) ?_; intro v2 w2 hown2 hb2)
        go_roundw
        case rel =>
          obtain ⟨a2, c2, e2⟩ := own_shape hown2
          subst e2
          refine ⟨k + 1, bs ++ [z], a2, c2, by simp, by go_num, by omega, Lib.hid ((hB.out.alloc hB.out.size _).trans hb2), Lib.hid (by simpa using hown2), Lib.hid ?_, by simp; omega⟩
          have hS := HST.out
          rw [if_neg (show ¬ z < 0 by omega)] at hS
          rw [hF.out, hS]
          simp [Int.add_assoc]
        case measure => simp [intOf]; omega
    · obtain rfl : k = n := by omega
      have hF' := hF.out
      rw [Nat.sub_self] at hF'
      have e0 : frontL hl (t + (k : Int)) 0 = [] := rfl
      rw [e0, List.append_nil] at hF'
      have HF := Lib.hid hF'
      clear hF' e0
      go_wp2_with fail
      go_ret
      rw [HF.out]
      exact ⟨_, rfl, hO.out, hB.out⟩
#print axioms front_any
end Go.Proofs.Ytfgjlfcadpmkhaa
