/- TermNone's walk: the call tells true, whatever it is told, and writes nothing that was there. -/
import Derived.Test.YtbhfilmbokaboaaAwake
import Derived.Test.YtbhfilmbokaboaaText
import Derived.Test.YtbhfilmbokaboaaLook
namespace Go.Proofs.Ytbhfilmbokaboaa
open Go Go.RowKit

set_option maxRecDepth 20000 in
theorem Tab.look {w : World} {B tb mb : Nat} {nv : Value} {N : List Nd} (h : TabAt w B tb mb nv N) (q : Nat) (n : Nd) (hq : N[q]? = some n) :
    Calls Try.prog 21 #[.pointer (some ⟨tb, 0, none⟩), .int .i64 ((q : Int) + 1)] w fun e w' => ∃ pv, e = .returned (.tuple #[.agg #[.int .i64 n.1, .string n.2.1, pv], .bool true]) ∧ w'.ownsRow w.heap.size 32 1 pv n.2.2.length (cs .i64 n.2.2) ∧ Below w.heap.size w w' := by
  obtain ⟨L, h1, rfl⟩ := h.ex
  unfold nds at hq
  rw [List.getElem?_map] at hq
  obtain ⟨p, hp, hn⟩ := Option.map_eq_some_iff.1 hq
  obtain ⟨hlt, rfl⟩ := List.getElem?_eq_some_iff.1 hp
  subst hn
  exact look_any h1 q hlt

/-- A row of its own of two: its first cell. -/
theorem own_pair {w : World} {base : Nat} {v : Value} {a b : Int} (h : w.ownsRow base 32 1 v 2 (cs .i64 [a, b])) :
    ∃ g cap, v = .slice (some ⟨g, 0, none⟩) 2 cap ∧ base ≤ g ∧ 2 ≤ cap ∧ cap ≤ 9223372036854775807 ∧ w.cell? ⟨g, 0, none⟩ = some (.int .i64 a) ∧ w.frozen? ⟨g, 0, none⟩ = false := by
  rcases h.2 with ⟨_, h0⟩ | ⟨g, cap, cur, rfl, hg, hh, h1, h2, h3, h4⟩
  · cases h0
  · unfold maxLen at h2
    refine ⟨g, cap, rfl, hg, h1, by omega, ?_, by simp [World.frozen?, hh]⟩
    have : cur[0]? = some (.int .i64 a) := by
      rw [← Array.getElem?_toList]
      have h5 : (cur.toList.take (2 * 1))[0]? = (cs .i64 [a, b])[0]? := by rw [h4]
      rw [List.getElem?_take_of_lt (by omega)] at h5
      rw [h5]; rfl
    simp [World.cell?, hh, this]

theorem no1 : fitsN [nS] 3 [1, 1] = true ∧ mkN [nS] 3 [1, 1] = [1, 1] ∧ idxN 1 [nS] (nd 3 [1, 1]) = none := by decide +kernel

set_option maxHeartbeats 4000000 in
set_option maxRecDepth 20000 in
/-- The law. -/
theorem none_walk {ao : Option Addr} {n cap : Nat} (h : Int) (w : World) :
    Calls Try.prog 6 #[.slice ao n cap, .int .i64 h] w fun e w' => e = .returned (.bool true) ∧ Below w.heap.size w w' := by
  go_enter Try.func6, Try.ntmps6
  go_wp2_with fail
  refine look_nil.mono ?_
  rintro e w1 ⟨rfl, b1⟩
  have s1 := b1.size
  go_wp2_with fail
  generalize hwa : w1.alloc (.cells #[.int .i64 0, .string ByteArray.empty, .slice none 0 0] 38) = wa
  have ba : Below w.heap.size w wa := by rw [← hwa]; exact b1.trans ((below_alloc w1 _).mono s1)
  have sa := ba.size
  have k0 : wa.cell? ⟨w1.heap.size, 0, none⟩ = some (.int .i64 0) := by
    have hA := heap_alloc_new w1 (.cells #[.int .i64 0, .string ByteArray.empty, .slice none 0 0] 38)
    rw [hwa] at hA
    simp [World.cell?, hA]
  clear hwa
  refine text_nil.mono ?_
  rintro e w2 ⟨rfl, rfl⟩
  go_wp2_with fail
  refine (secret_nil _).mono ?_
  rintro e w2 ⟨rfl, rfl⟩
  go_wp2_with fail
  refine make_nil.mono ?_
  rintro e w2 ⟨rfl, rfl⟩
  go_wp2_with fail
  refine (size_nil _).mono ?_
  rintro e w2 ⟨rfl, rfl⟩
  go_wp2_with fail
  refine (Tab.new wa).mono ?_
  rintro e w2 ⟨rfl, t2, b2'⟩
  have b2 := ba.trans (b2'.mono sa)
  have s2 := b2.size
  clear k0
  go_wp2_with fail
  refine (Tab.secret t2 (by decide)).mono ?_
  rintro e w3 ⟨rfl, nv3, t3, f3, m3⟩
  have b3 := b2.trans ((t2.below f3).mono sa)
  have s3 := b3.size
  have s3' := (t2.below f3).size
  go_wp2_with fail
  have q4 := Tab.make (N := [nS]) (t3.keep (below_alloc w3 (.cells #[.int .i64 1, .int .i64 1] 32))) 3 (Rd.lit .i64 32 w3 [1, 1] (by decide)) (by decide) no1.1 (by decide) (by have := b2'.size; have := f3.size; simp; omega)
  rw [no1.2.1] at q4
  refine q4.mono ?_
  intro e w4 p4
  clear q4
  obtain ⟨rfl, nv4, t4, f4, m4⟩ := p4.new no1.2.2
  have b4 := b3.trans (((below_alloc w3 (.cells #[.int .i64 1, .int .i64 1] 32)).mono s3).trans (((t3.keep (below_alloc w3 _)).below f4).mono sa))
  have s4 := b4.size
  go_wp2_with fail
  refine (Tab.look t4 1 (nd 3 [1, 1]) rfl).mono ?_
  rintro e w5 ⟨xv, rfl, o5, b45⟩
  obtain ⟨g, cp, rfl, hg, hc2, hcM, hcell, hfz⟩ := own_pair (a := 1) (b := 1) o5
  have b5 := b4.trans (b45.mono s4)
  have s5 := b5.size
  have s45 := b45.size
  clear o5 p4 f4 m4 f3 m3 t3 t2 b2' s3'
  have hgl := cell_lt hcell
  simp only at hgl
  have bx := below_alloc w5 (.cells #[.int .i64 3, .string ByteArray.empty, .slice (some ⟨g, 0, none⟩) 2 cp] 38)
  have hcell' : (w5.alloc (.cells #[.int .i64 3, .string ByteArray.empty, .slice (some ⟨g, 0, none⟩) 2 cp] 38)).cell? ⟨g, 0, none⟩ = some (.int .i64 1) := by
    rw [bx.cell hgl]; exact hcell
  have hfz' : (w5.alloc (.cells #[.int .i64 3, .string ByteArray.empty, .slice (some ⟨g, 0, none⟩) 2 cp] 38)).frozen? ⟨g, 0, none⟩ = false := by
    have := bx.block g hgl
    unfold World.frozen? at hfz ⊢
    rw [this]; exact hfz
  go_wp2_with fail
  have bs : Below w4.heap.size w4 (w5.setCell ⟨g, 0, none⟩ (.int .i64 0)) := b45.setCell hg _
  have b46 : Below w4.heap.size w4 ((w5.setCell ⟨g, 0, none⟩ (.int .i64 0)).alloc (.cells #[.int .i64 3, .string ByteArray.empty, .slice (some ⟨g, 0, none⟩) 2 cp] 38)) := bs.trans ((below_alloc _ _).mono bs.size)
  clear hcell hfz hcell' hfz' bx bs
  refine (Tab.look (t4.keep b46) 1 (nd 3 [1, 1]) rfl).mono ?_
  rintro e w7 ⟨yv, rfl, o7, b67⟩
  obtain ⟨g2, cp2, rfl, hg2, hc22, hcM2, hcell2, hfz2⟩ := own_pair (a := 1) (b := 1) o7
  have b7 := b4.trans ((b46.trans (b67.mono b46.size)).mono s4)
  have s7 := b7.size
  have hgl2 := cell_lt hcell2
  simp only at hgl2
  clear o7 b46 b67 hg2 hfz2 hg
  have bx := below_alloc w7 (.cells #[.int .i64 3, .string ByteArray.empty, .slice (some ⟨g2, 0, none⟩) 2 cp2] 38)
  have hcell' : (w7.alloc (.cells #[.int .i64 3, .string ByteArray.empty, .slice (some ⟨g2, 0, none⟩) 2 cp2] 38)).cell? ⟨g2, 0, none⟩ = some (.int .i64 1) := by
    rw [bx.cell hgl2]; exact hcell2
  go_wp2_with fail
  refine (awake_any _).mono ?_
  rintro e w8 ⟨rfl, b78⟩
  go_wp2_with fail
  go_ret
  exact ⟨rfl, b7.trans ((bx.mono s7).trans (b78.mono (Nat.le_trans s7 bx.size)))⟩
#print axioms none_walk
end Go.Proofs.Ytbhfilmbokaboaa
