/- The document's answer Bytes hands back a new slice of the number's bytes, and writes nothing that was there. -/
import Derived.Test.YtepkhhpdpmhfaaaDoorZGive
import Derived.Test.YtepkhhpdpmhfaaaDoorZRead
import Derived.Test.YtepkhhpdpmhfaaaDoorZClone
namespace Go.Proofs.YtepkhhpdpmhfaaaDoor
open Go Go.RowKit

theorem byt1 {v : Int} (h : 0 ≤ v ∧ v ≤ 255) : Byt [v] := fun z hz => by rw [List.mem_singleton.1 hz]; exact h
theorem Rd.shape' {w : World} {v : Value} {zs : List Int} (h : Rd w v zs) : ∃ ao cap, v = .slice ao zs.length cap := by obtain ⟨ao, cap, hv, _⟩ := h; exact ⟨ao, cap, hv⟩
set_option maxRecDepth 20000 in
set_option maxHeartbeats 1000000 in
theorem write_no {w : World} {ao : Option Addr} {cap : Nat} {nm : List Int} {a t : Int} (hn : Rd w (.slice ao nm.length cap) nm) (hl : nm.length ≤ 50) (ht : Tab w) (hw : 1 < w.heap.size) :
    Calls Tryd.prog 20 #[.agg #[.bool false, .int .i64 a, .int .i64 t, .slice ao nm.length cap]] w fun e w' => ∃ v', e = .returned v' ∧ w'.ownsRow w.heap.size 5 1 v' (tokB false a t nm).length (by8 (tokB false a t nm)) ∧ Below w.heap.size w w' := by
  have W1 : Hid ((((w.alloc (.cells #[.bool false, .int .i64 a, .int .i64 t, .slice ao nm.length cap] 30)).alloc (.cells #[.int .u8 0] 5))).heap[w.heap.size]? = some (.cells #[.bool false, .int .i64 a, .int .i64 t, .slice ao nm.length cap] 30 (0, 0))) := Lib.hid (by rw [(below_alloc _ _).block _ (by simp)]; exact heap_alloc_new _ _)
  have hb : Below w.heap.size w ((w.alloc (.cells #[.bool false, .int .i64 a, .int .i64 t, .slice ao nm.length cap] 30)).alloc (.cells #[.int .u8 0] 5)) := ((Below.refl w.heap.size w).alloc (Nat.le_refl _) _).alloc (by simp) _
  have c1 := append_any (w := ((w.alloc (.cells #[.bool false, .int .i64 a, .int .i64 t, .slice ao nm.length cap] 30)).alloc (.cells #[.int .u8 0] 5))) (zs := [0]) (v := .slice (some ⟨(w.alloc (.cells #[.bool false, .int .i64 a, .int .i64 t, .slice ao nm.length cap] 30)).heap.size, 0, none⟩) 1 1) (Rd.lit _ [0] (by simp) (byt1 (by decide))) (by simp) a (ht.below hb) (by have := hb.size; omega)
  rw [show (w.alloc (.cells #[.bool false, .int .i64 a, .int .i64 t, .slice ao nm.length cap] 30)).heap.size = w.heap.size + 1 by simp] at c1
  have HN := Lib.hid (And.intro hn (And.intro hl (And.intro ht (And.intro hw hb))))
  have hs : w.heap.size < ((w.alloc (.cells #[.bool false, .int .i64 a, .int .i64 t, .slice ao nm.length cap] 30)).alloc (.cells #[.int .u8 0] 5)).heap.size := by simp; omega
  have HE : Hid (tokB false a t nm = [0] ++ enc a ++ enc t ++ enc nm.length ++ nm) := Lib.hid (by simp [tokB])
  have HA := Lib.hid (And.intro (enc_byt a) (And.intro (enc_byt t) (And.intro (enc_len a) (And.intro (enc_len t) hs))))
  clear hn hl ht hw hb hs
  go_enter Tryd.func20, Tryd.ntmps20
  go_wp2_with fail
  refine c1.mono ?_
  rintro e w1 ⟨v1, rfl, o1, b1⟩
  have r1 := (Rd.of_own (zs := [0] ++ enc a) o1 ((byt1 (v := 0) (by decide)).app HA.out.1)).1
  have k1 := (b1.block _ HA.out.2.2.2.2).trans W1.out
  have s1 := blkLt k1
  have hb1 := HN.out.2.2.2.2.trans (b1.mono HN.out.2.2.2.2.size)
  have c2 := append_any r1 (by simp; have := HA.out; omega) t (HN.out.2.2.1.below hb1) (by have := hb1.size; have := HN.out.2.2.2.1; omega)
  have K1 := Lib.hid (And.intro k1 (And.intro s1 hb1))
  obtain ⟨m0, m1, m2, m3, mf⟩ := cells4 k1
  clear c1 o1 b1 r1 k1 s1 hb1 m0 m1 m3
  go_wp2_with fail
  refine c2.mono ?_
  rintro e w2 ⟨v2, rfl, o2, b2⟩
  clear c2 m2 mf
  have r2 := (Rd.of_own (zs := [0] ++ enc a ++ enc t) o2 (((byt1 (v := 0) (by decide)).app HA.out.1).app HA.out.2.1)).1
  have k2 := (b2.block _ K1.out.2.1).trans K1.out.1
  have hb2 := K1.out.2.2.trans (b2.mono K1.out.2.2.size)
  have c3 := give_any r2 (HN.out.1.below hb2) (by simp; have := HA.out; omega) (by have := HN.out.2.1; omega) (HN.out.2.2.1.below hb2) (by have := hb2.size; have := HN.out.2.2.2.1; omega)
  have K2 := Lib.hid hb2
  obtain ⟨m0, m1, m2, m3, mf⟩ := cells4 k2
  clear o2 b2 r2 k2 hb2 K1 m0 m1 m2
  go_wp2_with fail
  refine c3.mono ?_
  rintro e w3 ⟨v3, rfl, o3, b3⟩
  clear c3 m3 mf
  go_wp2_with fail
  go_ret
  refine ⟨_, rfl, ?_, K2.out.trans (b3.mono K2.out.size)⟩
  rw [HE.out]
  have e : ([0] ++ enc a ++ enc t ++ enc nm.length ++ nm).length = ([0] ++ enc a ++ enc t).length + (enc nm.length).length + nm.length := by simp only [List.length_append]
  rw [e]
  exact own_mono o3 K2.out.size
set_option maxRecDepth 20000 in
set_option maxHeartbeats 1000000 in
theorem write_yes {w : World} {ao : Option Addr} {cap : Nat} {nm : List Int} {a t : Int} (hn : Rd w (.slice ao nm.length cap) nm) (hl : nm.length ≤ 50) (ht : Tab w) (hw : 1 < w.heap.size) :
    Calls Tryd.prog 20 #[.agg #[.bool true, .int .i64 a, .int .i64 t, .slice ao nm.length cap]] w fun e w' => ∃ v', e = .returned v' ∧ w'.ownsRow w.heap.size 5 1 v' (tokB true a t nm).length (by8 (tokB true a t nm)) ∧ Below w.heap.size w w' := by
  have W1 : Hid ((((w.alloc (.cells #[.bool true, .int .i64 a, .int .i64 t, .slice ao nm.length cap] 30)).alloc (.cells #[.int .u8 1] 5))).heap[w.heap.size]? = some (.cells #[.bool true, .int .i64 a, .int .i64 t, .slice ao nm.length cap] 30 (0, 0))) := Lib.hid (by rw [(below_alloc _ _).block _ (by simp)]; exact heap_alloc_new _ _)
  have hb : Below w.heap.size w ((w.alloc (.cells #[.bool true, .int .i64 a, .int .i64 t, .slice ao nm.length cap] 30)).alloc (.cells #[.int .u8 1] 5)) := ((Below.refl w.heap.size w).alloc (Nat.le_refl _) _).alloc (by simp) _
  have c1 := append_any (w := ((w.alloc (.cells #[.bool true, .int .i64 a, .int .i64 t, .slice ao nm.length cap] 30)).alloc (.cells #[.int .u8 1] 5))) (zs := [1]) (v := .slice (some ⟨(w.alloc (.cells #[.bool true, .int .i64 a, .int .i64 t, .slice ao nm.length cap] 30)).heap.size, 0, none⟩) 1 1) (Rd.lit _ [1] (by simp) (byt1 (by decide))) (by simp) a (ht.below hb) (by have := hb.size; omega)
  rw [show (w.alloc (.cells #[.bool true, .int .i64 a, .int .i64 t, .slice ao nm.length cap] 30)).heap.size = w.heap.size + 1 by simp] at c1
  have HN := Lib.hid (And.intro hn (And.intro hl (And.intro ht (And.intro hw hb))))
  have hs : w.heap.size < ((w.alloc (.cells #[.bool true, .int .i64 a, .int .i64 t, .slice ao nm.length cap] 30)).alloc (.cells #[.int .u8 1] 5)).heap.size := by simp; omega
  have HE : Hid (tokB true a t nm = [1] ++ enc a ++ enc t ++ enc nm.length ++ nm) := Lib.hid (by simp [tokB])
  have HA := Lib.hid (And.intro (enc_byt a) (And.intro (enc_byt t) (And.intro (enc_len a) (And.intro (enc_len t) hs))))
  clear hn hl ht hw hb hs
  go_enter Tryd.func20, Tryd.ntmps20
  go_wp2_with fail
  refine c1.mono ?_
  rintro e w1 ⟨v1, rfl, o1, b1⟩
  have r1 := (Rd.of_own (zs := [1] ++ enc a) o1 ((byt1 (v := 1) (by decide)).app HA.out.1)).1
  have k1 := (b1.block _ HA.out.2.2.2.2).trans W1.out
  have s1 := blkLt k1
  have hb1 := HN.out.2.2.2.2.trans (b1.mono HN.out.2.2.2.2.size)
  have c2 := append_any r1 (by simp; have := HA.out; omega) t (HN.out.2.2.1.below hb1) (by have := hb1.size; have := HN.out.2.2.2.1; omega)
  have K1 := Lib.hid (And.intro k1 (And.intro s1 hb1))
  obtain ⟨m0, m1, m2, m3, mf⟩ := cells4 k1
  clear c1 o1 b1 r1 k1 s1 hb1 m0 m1 m3
  go_wp2_with fail
  refine c2.mono ?_
  rintro e w2 ⟨v2, rfl, o2, b2⟩
  clear c2 m2 mf
  have r2 := (Rd.of_own (zs := [1] ++ enc a ++ enc t) o2 (((byt1 (v := 1) (by decide)).app HA.out.1).app HA.out.2.1)).1
  have k2 := (b2.block _ K1.out.2.1).trans K1.out.1
  have hb2 := K1.out.2.2.trans (b2.mono K1.out.2.2.size)
  have c3 := give_any r2 (HN.out.1.below hb2) (by simp; have := HA.out; omega) (by have := HN.out.2.1; omega) (HN.out.2.2.1.below hb2) (by have := hb2.size; have := HN.out.2.2.2.1; omega)
  have K2 := Lib.hid hb2
  obtain ⟨m0, m1, m2, m3, mf⟩ := cells4 k2
  clear o2 b2 r2 k2 hb2 K1 m0 m1 m2
  go_wp2_with fail
  refine c3.mono ?_
  rintro e w3 ⟨v3, rfl, o3, b3⟩
  clear c3 m3 mf
  go_wp2_with fail
  go_ret
  refine ⟨_, rfl, ?_, K2.out.trans (b3.mono K2.out.size)⟩
  rw [HE.out]
  have e : ([1] ++ enc a ++ enc t ++ enc nm.length ++ nm).length = ([1] ++ enc a ++ enc t).length + (enc nm.length).length + nm.length := by simp only [List.length_append]
  rw [e]
  exact own_mono o3 K2.out.size
theorem write_any {w : World} {ao : Option Addr} {cap : Nat} {nm : List Int} {l : Bool} {a t : Int} (hn : Rd w (.slice ao nm.length cap) nm) (hl : nm.length ≤ 50) (ht : Tab w) (hw : 1 < w.heap.size) :
    Calls Tryd.prog 20 #[.agg #[.bool l, .int .i64 a, .int .i64 t, .slice ao nm.length cap]] w fun e w' => ∃ v', e = .returned v' ∧ w'.ownsRow w.heap.size 5 1 v' (tokB l a t nm).length (by8 (tokB l a t nm)) ∧ Below w.heap.size w w' := by
  cases l
  · exact write_no hn hl ht hw
  · exact write_yes hn hl ht hw
#print axioms write_any
end Go.Proofs.YtepkhhpdpmhfaaaDoor
namespace Go.Proofs.YtepkhhpdpmhfaaaDoor
open Go Go.RowKit

theorem val_one (zs : List Int) (z : Int) (r : List Int) (h : zs = z :: r) : val (zs.take 1) = z % 64 := by subst h; simp [val, vf]
theorem val_snoc (zs : List Int) (k : Nat) (h1 : 1 ≤ k) (h : k < zs.length) : val (zs.take (k + 1)) = 256 * val (zs.take k) + zs.getD k 0 := by
  cases zs with
  | nil => simp at h
  | cons z r =>
    obtain ⟨j, rfl⟩ : ∃ j, k = j + 1 := ⟨k - 1, by omega⟩
    simp only [List.length_cons] at h
    have := take_snoc r j (by omega)
    simp only [List.take_succ_cons, val] at this ⊢
    rw [this, vf_snoc]
    simp only [List.getD_cons_succ]
    omega
theorem val_bd (zs : List Int) (hz : Byt zs) (k : Nat) (hk : k ≤ 7) : 0 ≤ val (zs.take k) ∧ val (zs.take k) < 18014398509481984 := by
  cases zs with
  | nil => simp [val]
  | cons z r =>
    cases k with
    | zero => simp [val]
    | succ j =>
      have hb := vf_bd (z % 64) (by omega) (by omega) (r.take j) (fun x hx => hz x (by simp [List.mem_of_mem_take hx]))
      simp only [List.take_succ_cons, val]
      refine ⟨hb.1, ?_⟩
      have hl : (r.take j).length ≤ 6 := by simp; omega
      have h2 := pow_le6 _ hl
      omega

/-- Two to the k. -/
def p2 (k : Nat) : Nat := 2 ^ k

end Go.Proofs.YtepkhhpdpmhfaaaDoor
namespace Go.Proofs.YtepkhhpdpmhfaaaDoor
open Go Go.RowKit

theorem bytes_step {w0 wr : World} {base g cap k j m : Nat} {n : Int}
    (hown : wr.ownsRow base 5 1 (.slice (some ⟨g, 0, none⟩) k cap) k (by8 (List.replicate (m + 1) 0 ++ tl j n))) (hb : Below base w0 wr) {x : Int} (hx : x = (n / 256 ^ j) % 256) :
    (wr.setCell ⟨g, m, none⟩ (.int .u8 x)).ownsRow base 5 1 (.slice (some ⟨g, 0, none⟩) k cap) k (by8 (List.replicate m 0 ++ tl (j + 1) n)) ∧ Below base w0 (wr.setCell ⟨g, m, none⟩ (.int .u8 x)) := by
  obtain ⟨h1, _⟩ := hown.stored m (.int .u8 x)
  have hg := (hown.lt g rfl).1
  refine ⟨?_, hb.setCell hg _⟩
  have e : (by8 (List.replicate (m + 1) 0 ++ tl j n)).set m (.int .u8 x) = by8 (List.replicate m 0 ++ tl (j + 1) n) := by
    have := set_tail (by8 (List.replicate (m + 1) 0)) m (by8 (tl j n)) (.int .u8 x) (by simp [by8])
    rw [List.take_of_length_le (by simp [by8])] at this
    rw [by8_app, this]
    subst hx
    simp [by8, tl]
  rw [← e]
  exact h1

theorem put0 {w0 wr : World} {base g cap k : Nat} {x y : Int} {r : List Int} (hown : wr.ownsRow base 5 1 (.slice (some ⟨g, 0, none⟩) k cap) k (by8 (x :: r))) (hb : Below base w0 wr) :
    (wr.setCell ⟨g, 0, none⟩ (.int .u8 y)).ownsRow base 5 1 (.slice (some ⟨g, 0, none⟩) k cap) k (by8 (y :: r)) ∧ Below base w0 (wr.setCell ⟨g, 0, none⟩ (.int .u8 y)) := by
  obtain ⟨h1, _⟩ := hown.stored 0 (.int .u8 y)
  exact ⟨h1, hb.setCell (hown.lt g rfl).1 _⟩

end Go.Proofs.YtepkhhpdpmhfaaaDoor
