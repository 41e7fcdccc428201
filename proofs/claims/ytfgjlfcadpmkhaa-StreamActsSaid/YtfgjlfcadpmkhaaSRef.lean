/- The document's stream: which byte is held at a place. -/
import Derived.Test.YtfgjlfcadpmkhaaSCov
import Derived.StillTailTactics
namespace Go.Proofs.Ytfgjlfcadpmkhaa
open Go Go.RowKit

/-- The byte at a place; -1: none. -/
def heldL (hl : List (Int × Int)) (p : Int) : Int := match hl.find? (fun x => x.1 == p) with
  | some x => x.2
  | none => -1
theorem heldL_nil (p : Int) : heldL [] p = -1 := rfl
theorem heldL_cons (x : Int × Int) (hl : List (Int × Int)) (p : Int) : heldL (x :: hl) p = if x.1 = p then x.2 else heldL hl p := by
  unfold heldL
  rw [List.find?_cons]
  by_cases h : x.1 = p
  · simp [h]
  · have : (x.1 == p) = false := by simp [h]
    rw [this, if_neg h]
/-- The document's stream in box R: t taken, its places and bytes in rows of its own. -/
structure Rs (w : World) (R base t : Nat) (av bv : Value) (hl : List (Int × Int)) : Prop where
  box : w.heap[R]? = some (.cells #[.int .i64 (t : Int), av, bv] 31 (0, 0))
  at' : w.ownsRow base 3 1 av hl.length (hl.map (fun x => .int .i64 x.1))
  byte : w.ownsRow base 5 1 bv hl.length (by8 (hl.map (·.2)))
  byt : Byt (hl.map (·.2))
  low : R < base
theorem Rs.shapes {w : World} {R base t : Nat} {av bv : Value} {hl : List (Int × Int)} (h : Rs w R base t av bv hl) : ∃ aa ac ba bc, av = .slice aa hl.length ac ∧ bv = .slice ba hl.length bc := by
  obtain ⟨aa, ac, e1⟩ : ∃ aa ac, av = .slice aa hl.length ac := by
    rcases h.at'.2 with ⟨h1, h2⟩ | ⟨g, cap, cur, h1, _⟩
    · exact ⟨none, 0, by rw [h1, h2]⟩
    · exact ⟨_, _, h1⟩
  obtain ⟨ba, bc, e2⟩ : ∃ ba bc, bv = .slice ba hl.length bc := by
    rcases h.byte.2 with ⟨h1, h2⟩ | ⟨g, cap, cur, h1, _⟩
    · exact ⟨none, 0, by rw [h1, h2]⟩
    · exact ⟨_, _, h1⟩
  exact ⟨aa, ac, ba, bc, e1, e2⟩
theorem own_cell {w : World} {base n m c : Nat} {e : TypeId} {a : Option Addr} {xs : List Value} (h : w.ownsRow base e 1 (.slice a m c) n xs) (hn : xs.length = n) {k : Nat} {x : Value} (hk : xs[k]? = some x) : ∃ g, a = some ⟨g, 0, none⟩ ∧ w.cell? ⟨g, k, none⟩ = some x := by
  have hlt := (List.getElem?_eq_some_iff.1 hk).1
  rcases h.2 with ⟨e1, e2⟩ | ⟨g, cap, cur, e1, _⟩
  · omega
  · simp only [Value.slice.injEq] at e1
    obtain ⟨rfl, rfl, rfl⟩ := e1
    have := World.ownsRow.cells h rfl k x hk
    rw [Addr.add_lit, show 0 + k = k by omega] at this
    exact ⟨g, rfl, this⟩

set_option maxRecDepth 20000 in
set_option maxHeartbeats 4000000 in
theorem held_any {w : World} {R base t : Nat} {av bv : Value} {hl : List (Int × Int)} (p : Int) (h : Rs w R base t av bv hl) (hn : hl.length ≤ 1000000) :
    Calls Try.prog 15 #[.pointer (some ⟨R, 0, none⟩), .int .i64 p] w fun e w' => e = .returned (.int .i64 (heldL hl p)) ∧ w' = w := by
  have c1 : w.cell? ⟨R, 1, none⟩ = some av := (cell_of_row w R 1 _ 31 (0, 0) h.box).trans rfl
  have c2 : w.cell? ⟨R, 2, none⟩ = some bv := (cell_of_row w R 2 _ 31 (0, 0) h.box).trans rfl
  obtain ⟨aa, ac, ba, bc, rfl, rfl⟩ := h.shapes
  have HA := Lib.hid h.at'
  have HB := Lib.hid h.byte
  have HBY := Lib.hid h.byt
  clear h
  go_enter Try.func15, Try.ntmps15
  go_wp2_with fail
  go_loopw [5] (fun iv wr => ∃ k : Nat, iv = .int .i64 k ∧ k ≤ hl.length ∧ Hid (heldL hl p = heldL (hl.drop k) p) ∧ wr = w) (fun iv _ => hl.length - (intOf iv).toNat)
  case atStart => exact ⟨0, rfl, Nat.zero_le _, Lib.hid rfl, rfl⟩
  case round =>
    obtain ⟨k, rfl, hk, hH, rfl⟩ := hrel
    by_cases hlt : k < hl.length
    · obtain ⟨x, hx⟩ : ∃ x, hl[k]? = some x := ⟨_, List.getElem?_eq_getElem hlt⟩
      have hd : hl.drop k = x :: hl.drop (k + 1) := by
        rw [List.drop_eq_getElem_cons hlt]
        have := List.getElem?_eq_getElem hlt
        rw [hx] at this
        rw [← Option.some.inj this]
      obtain ⟨ga, rfl, d1⟩ := own_cell HA.out (by simp) (k := k) (x := .int .i64 x.1) (by simp [hx])
      obtain ⟨gb, rfl, d2⟩ := own_cell HB.out (by simp [by8]) (k := k) (x := .int .u8 x.2) (by simp [by8, hx])
      have hki : (k : Int) < (hl.length : Int) := by omega
      have hb : 0 ≤ x.2 ∧ x.2 ≤ 255 := HBY.out x.2 (List.mem_map.2 ⟨x, List.mem_of_getElem? hx, rfl⟩)
      have wx : IntKind.i64.wrap x.2 = x.2 := IntWalk.i64_in _ ⟨by omega, by omega⟩
      have hH' := hH.out
      rw [hd, heldL_cons] at hH'
      clear hd hx hb
      obtain ⟨xp, xb⟩ := x
      simp only at d1 d2 wx hH'
      by_cases he : xp = p
      · rw [if_pos he] at hH'
        have HH := Lib.hid hH'
        subst he
        clear hH'
        go_wp2_with fail
        go_ret
        exact ⟨by rw [HH.out]; rfl, rfl⟩
      · rw [if_neg he] at hH'
        have HH := Lib.hid hH'
        have hne : (xp == p) = false := beq_eq_false_iff_ne.2 he
        clear hH'
        go_wp2_with fail
        go_roundw
        case rel => exact ⟨k + 1, by go_num, by omega, HH, trivial⟩
        case measure => simp [intOf]; omega
    · obtain rfl : k = hl.length := by omega
      have hH' := hH.out
      rw [List.drop_length, heldL_nil] at hH'
      have HH := Lib.hid hH'
      clear hH'
      go_wp2_with fail
      go_ret
      exact ⟨by rw [HH.out]; rfl, rfl⟩
#print axioms held_any
end Go.Proofs.Ytfgjlfcadpmkhaa
