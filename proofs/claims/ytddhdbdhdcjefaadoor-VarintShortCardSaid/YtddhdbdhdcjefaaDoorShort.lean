/- VarintShort holds: for every number and every cut the call tells true, and writes nothing that was there. -/
import Derived.Test.YtddhdbdhdcjefaaDoorEnc
namespace Go.Proofs.YtddhdbdhdcjefaaDoor.short
open Go Go.RowKit

set_option maxHeartbeats 800000 in
theorem walk (n c : Int) (hc0 : 0 ≤ c) (hc1 : c ≤ 255) {w : World} (ht : Tab w) (hw : 1 < w.heap.size) :
    Calls Tryd.prog 7 #[.int .i64 n, .int .u8 c] w fun e w' => e = .returned (.bool true) ∧ Below w.heap.size w w' := by
  obtain ⟨k, hk⟩ : ∃ k : Nat, c % 8 = (k : Int) := ⟨(c % 8).toNat, by omega⟩
  have hk8 : k < 8 := by omega
  have hl8 := enc_len n
  have hcut := rd_cut n k
  go_enter Tryd.func7, Tryd.ntmps7
  go_wp2_with fail
  refine (append_any (Rd.nil _) (by decide) n ht hw).mono ?_
  rintro e w1 ⟨v1, rfl, hown1, hb1⟩
  have g1 := (Rd.of_own hown1 (by simpa using enc_byt n)).1
  simp only [List.nil_append] at g1
  have t1 := ht.below hb1
  have s1 := hb1.size
  have g1' := g1
  obtain ⟨ao, cap, rfl, hcap, hcap', _⟩ := g1'
  unfold maxLen at hcap'
  clear hown1
  generalize hl : (enc n).length = L at *
  have HL := Lib.hid hl
  clear hl
  by_cases hlt : k < L
  · have hcut' := hcut hlt
    have hr := read_any (g1.take k (by have := HL.out; omega))
    rw [hcut'] at hr
    have HC := Lib.hid hcut'
    clear hcut hcut'
    go_wp2_with fail
    refine hr.mono ?_
    rintro e w2 ⟨rfl, rfl⟩
    go_wp2_with fail
    refine (awake_any t1 (by omega)).mono ?_
    rintro e w3 ⟨rfl, hb3⟩
    go_wp2_with fail
    go_ret
    exact ⟨rfl, hb1.trans (hb3.mono (by omega))⟩
  · clear hcut
    go_wp2_with fail
    refine (awake_any t1 (by omega)).mono ?_
    rintro e w3 ⟨rfl, hb3⟩
    go_wp2_with fail
    go_ret
    exact ⟨rfl, hb1.trans (hb3.mono (by omega))⟩
#print axioms walk
end Go.Proofs.YtddhdbdhdcjefaaDoor.short
