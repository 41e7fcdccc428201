/- A step, done with both tables: one number, and one list of nodes. -/
import Derived.Test.YtbhfilmbokaboaaTwo
import Derived.Test.YtbhfilmbokaboaaIdSeal
import Derived.Test.YtbhfilmbokaboaaParts
import Derived.Test.YtbhfilmbokaboaaTerms
import Derived.Deep.RegionWith
import Derived.Deep.QuietTactic
import Derived.BigQuiet
import Derived.BigRegion
namespace Go.Proofs.Ytbhfilmbokaboaa
open Go Go.RowKit

/-- What a step does to the nodes. -/
def doN (N : List Nd) (k : Int) (t : ByteArray) (near : Bool) (xs : List Int) : Int × List Nd :=
  if k = 1 then textN N t else if k = 2 then putN N secretNd else makeN N k (stepParts near (N.length : Int) xs)

set_option maxRecDepth 20000 in
set_option maxHeartbeats 4000000 in
theorem do_secret {w0 w : World} {tb mb rb : Nat} {N : List Nd} (h : Two w0 w tb mb rb N) (hroom : N.length < 65536) {k : Int} (hk : Hid (k = 2)) (t : ByteArray) (ao : Option Addr) (n cp : Nat) (near : Bool) :
    Calls Try.prog 19 #[.pointer (some ⟨tb, 0, none⟩), .pointer (some ⟨rb, 0, none⟩), .agg #[.int .i64 k, .string t, .slice ao n cp, .bool near]] w fun e w' => e = .returned (.tuple #[.int .i64 (putN N secretNd).1, .int .i64 (putN N secretNd).1]) ∧ Two w0 w' tb mb rb (putN N secretNd).2 ∧ Kept w w' := by
  obtain rfl := hk.out
  have hW := below_alloc w (.cells #[.int .i64 2, .string t, .slice ao n cp, .bool near] 31)
  have c1 := (h.keep hW).secretP hroom
  have HOK := Lib.hid h.ok
  have HR := Lib.hid hroom
  clear h hroom
  go_enter Try.func19, Try.ntmps19
  go_wp2_with fail
  refine c1.mono ?_
  rintro e w2 ⟨rfl, m2, k2⟩
  have c2 := m2.secretR HOK.out HR.out
  clear m2 c1
  go_wp2_with fail
  refine c2.mono ?_
  rintro e w3 ⟨rfl, t3, k3⟩
  have HT := Lib.hid t3
  have HK := Lib.hid ((Kept.of_below hW).trans (k2.trans k3))
  clear t3 k2 k3 c2 hW
  go_wp2_with fail
  go_ret2
  exact ⟨rfl, HT.out, HK.out⟩

set_option maxRecDepth 20000 in
set_option maxHeartbeats 4000000 in
theorem do_text {w0 w : World} {tb mb rb : Nat} {N : List Nd} (h : Two w0 w tb mb rb N) (hroom : N.length < 65536) {k : Int} (hk : Hid (k = 1)) (t : ByteArray) (ht : t.size ≤ 2048) (ao : Option Addr) (n cp : Nat) (near : Bool) :
    Calls Try.prog 19 #[.pointer (some ⟨tb, 0, none⟩), .pointer (some ⟨rb, 0, none⟩), .agg #[.int .i64 k, .string t, .slice ao n cp, .bool near]] w fun e w' => e = .returned (.tuple #[.int .i64 (textN N t).1, .int .i64 (textN N t).1]) ∧ Two w0 w' tb mb rb (textN N t).2 ∧ Kept w w' := by
  obtain rfl := hk.out
  have hW := below_alloc w (.cells #[.int .i64 1, .string t, .slice ao n cp, .bool near] 31)
  have hbox : Hid ((w.alloc (.cells #[.int .i64 1, .string t, .slice ao n cp, .bool near] 31)).drew.heap[w.heap.size]? = some (.cells #[.int .i64 1, .string t, .slice ao n cp, .bool near] 31 (0, 0))) := Lib.hid (heap_alloc_new _ _)
  have HOK := Lib.hid h.ok
  have HR := Lib.hid hroom
  have HTS := Lib.hid ht
  have hT := h.keep hW.drew
  obtain ⟨v, w2, hv, hr, hb⟩ := conv_str (w.alloc (.cells #[.int .i64 1, .string t, .slice ao n cp, .bool near] 31)).drew t (by unfold maxLen; omega)
  have c1 := (hT.keep hb).textP hr (by rw [sbytes_len]; exact ht) hroom
  rw [bstr_sbytes] at c1
  have HB1 : Hid (Kept (w.alloc (.cells #[.int .i64 1, .string t, .slice ao n cp, .bool near] 31)).drew w2) := Lib.hid (.of_below hb)
  have HB0 : Hid (Kept w (w.alloc (.cells #[.int .i64 1, .string t, .slice ao n cp, .bool near] 31)).drew) := Lib.hid (.of_below hW.drew)
  have hc1 : (w.alloc (.cells #[.int .i64 1, .string t, .slice ao n cp, .bool near] 31)).drew.cell? ⟨w.heap.size, 1, none⟩ = some (.string t) := (cell_of_row _ w.heap.size 1 _ 31 (0, 0) hbox.out).trans rfl
  have hc2 : w2.cell? ⟨w.heap.size, 1, none⟩ = some (.string t) := (cell_of_row _ w.heap.size 1 _ 31 (0, 0) (HB1.out _ _ _ _ hbox.out (by decide) (by decide) (by decide) (by decide))).trans rfl
  clear h hroom ht hb hr hW hT
  go_enter Try.func19, Try.ntmps19
  go_wp2_with fail
  go_region_with (first | (go_at_call 25; refine c1.mono ?_; rintro e w3 ⟨rfl, m3, k3⟩; have hc3 : w3.cell? ⟨w.heap.size, 1, none⟩ = some (.string t) := (cell_of_row _ w.heap.size 1 _ 31 (0, 0) (k3 _ _ _ _ (HB1.out _ _ _ _ hbox.out (by decide) (by decide) (by decide) (by decide)) (by decide) (by decide) (by decide) (by decide))).trans rfl) | (go_at_call 55; refine (m3.textR HOK.out HTS.out HR.out).mono ?_; rintro e w4 ⟨rfl, t4, k4⟩))
  all_goals
    have HT := Lib.hid t4
    have HK := Lib.hid (HB0.out.trans (HB1.out.trans (k3.trans k4)))
    clear t4 k3 k4 m3
    go_wp2_with fail
    go_ret2
    exact ⟨rfl, HT.out, HK.out⟩

theorem stepParts_len (near : Bool) (s : Int) (xs : List Int) : (stepParts near s xs).length = xs.length := by
  unfold stepParts; split <;> simp
theorem box_kept {w w' : World} {g : Nat} {c0 c1 c2 c3 : Value} (h : Kept w w') (hb : w.heap[g]? = some (.cells #[c0, c1, c2, c3] 31 (0, 0))) : w'.heap[g]? = some (.cells #[c0, c1, c2, c3] 31 (0, 0)) :=
  h _ _ _ _ hb (by decide) (by decide) (by decide) (by decide)
theorem own_kept {w w' : World} {base n : Nat} {v : Value} {xs : List Value} (h : Kept w w') (ho : w.ownsRow base 3 1 v n xs) : w'.ownsRow base 3 1 v n xs :=
  own_keep ho fun g hg => by
    obtain ⟨cur, hc⟩ := own_blk ho hg
    rw [hc]; exact h _ _ _ _ hc (by decide) (by decide) (by decide) (by decide)
theorem len_rd {w : World} {base e n : Nat} {v : Value} {ys : List Int} (h : w.ownsRow base e 1 v n (cs .i64 ys)) (_hn : ys.length = n) : Rd .i64 w v ys := (Rd.of_own h).1
/-- The cells of the box, in a world that keeps it. -/
theorem box_cells {w : World} {g : Nat} {c0 c1 c2 c3 : Value} (h : w.heap[g]? = some (.cells #[c0, c1, c2, c3] 31 (0, 0))) :
    w.cell? ⟨g, 0, none⟩ = some c0 ∧ w.cell? ⟨g, 1, none⟩ = some c1 ∧ w.cell? ⟨g, 2, none⟩ = some c2 ∧ w.cell? ⟨g, 3, none⟩ = some c3 :=
  ⟨(cell_of_row _ g 0 _ _ (0, 0) h).trans rfl, (cell_of_row _ g 1 _ _ (0, 0) h).trans rfl, (cell_of_row _ g 2 _ _ (0, 0) h).trans rfl, (cell_of_row _ g 3 _ _ (0, 0) h).trans rfl⟩

set_option maxRecDepth 20000 in
set_option maxHeartbeats 4000000 in
theorem do_make {w0 w : World} {tb mb rb : Nat} {N : List Nd} (h : Two w0 w tb mb rb N) (hroom : N.length ≤ 60000) {k : Int} (hk1 : k ≠ 1) (hk2 : k ≠ 2) (t : ByteArray) {ao : Option Addr} {cp : Nat} (near : Bool) {xs : List Int} (hx : Rd .i64 w (.slice ao xs.length cp) xs) (hl : xs.length ≤ 20) :
    Calls Try.prog 19 #[.pointer (some ⟨tb, 0, none⟩), .pointer (some ⟨rb, 0, none⟩), .agg #[.int .i64 k, .string t, .slice ao xs.length cp, .bool near]] w fun e w' => e = .returned (.tuple #[.int .i64 (makeN N k (stepParts near (N.length : Int) xs)).1, .int .i64 (makeN N k (stepParts near (N.length : Int) xs)).1]) ∧ Two w0 w' tb mb rb (makeN N k (stepParts near (N.length : Int) xs)).2 ∧ Kept w w' := by
  have e1 : (k == 1) = false := beq_eq_false_iff_ne.2 hk1
  have e2 : (k == 2) = false := beq_eq_false_iff_ne.2 hk2
  have hW := (below_alloc w (.cells #[.int .i64 k, .string t, .slice ao xs.length cp, .bool near] 31)).drew
  have hbox : Hid (((w.alloc (.cells #[.int .i64 k, .string t, .slice ao xs.length cp, .bool near] 31)).drew).heap[w.heap.size]? = some (.cells #[.int .i64 k, .string t, .slice ao xs.length cp, .bool near] 31 (0, 0))) := Lib.hid (heap_alloc_new _ _)
  have HOK := Lib.hid h.ok
  have HR := Lib.hid hroom
  have HL := Lib.hid hl
  have hT := h.keep hW
  have hxW := hx.below hW
  have HKW : Hid (Kept w ((w.alloc (.cells #[.int .i64 k, .string t, .slice ao xs.length cp, .bool near] 31)).drew)) := Lib.hid (.of_below hW)
  obtain ⟨bc0, bc1, bc2, bc3⟩ := box_cells hbox.out
  obtain ⟨rv, L, r1, r2⟩ := hT.ref
  obtain ⟨aor, cpr, rfl, _, _⟩ := own_shape r1.nodes
  have hr0 : ((w.alloc (.cells #[.int .i64 k, .string t, .slice ao xs.length cp, .bool near] 31)).drew).cell? ⟨rb, 0, none⟩ = some (.slice aor L.length cpr) := by
    exact (cell_of_row _ rb 0 _ _ (0, 0) r1.tab).trans rfl
  have hLN : (L.length : Int) = (N.length : Int) := by rw [← r2, nds_len]
  have c1 := parts_any (k := k) (t := t) (near := near) (L.length : Int) hxW (by omega) (by omega) (by rw [hLN]; omega)
  rw [hLN] at c1
  have HLN := Lib.hid hLN
  have HTW := Lib.hid hT
  have hsl : (stepParts near (N.length : Int) xs).length = xs.length := stepParts_len _ _ _
  generalize stepParts near (N.length : Int) xs = ys at *
  have HSL := Lib.hid hsl
  clear h hroom hl hW hT hx hxW r1 r2 hsl hk1 hk2
  go_enter Try.func19, Try.ntmps19
  go_wp2_with fail
  go_region_with (go_at_call 24; refine c1.mono ?_; rintro e w2 ⟨u, rfl, ho2, hb2⟩)
  all_goals
    have HBX2 := Lib.hid (box_kept (Kept.of_below hb2) hbox.out)
    have HT2 := Lib.hid (HTW.out.keep hb2)
    have HK2 := Lib.hid (HKW.out.trans (Kept.of_below hb2))
    obtain ⟨au, cu, rfl, _, _⟩ := own_shape ho2
    have HO2 := Lib.hid ho2
    have c2 := terms_any (w := w2.drew) ((Rd.of_own ho2).1.below (Below.refl _ _).drew) (by rw [HSL.out]; have := HL.out; omega)
    obtain ⟨d0, d1, d2, d3⟩ := box_cells (w := w2.drew) HBX2.out
    rw [HSL.out] at c2
    clear ho2 hb2 c1 bc0 bc1 bc2 bc3 hr0
    go_wp2_with fail
    go_region_with (first
      | (go_at_call 27; refine c2.mono ?_; rintro e w3 ⟨u3, rfl, ho3, hb3⟩; have HBX3 := Lib.hid (box_kept (w := w2.drew) (Kept.of_below hb3) HBX2.out); obtain ⟨g0, g1, g2, g3⟩ := box_cells HBX3.out; have c3 := (Two.keep (w := w2.drew) (HT2.out.keep (Below.refl _ _).drew) hb3).makeP k (ps := ys) (len_rd ho3 HSL.out) (by rw [HSL.out]; have := HL.out; omega) (by have := HR.out; omega))
      | (go_at_call 26; refine c3.mono ?_; rintro e w4 ⟨rfl, m4, k4⟩; have HBX4 := Lib.hid (box_kept k4 HBX3.out); obtain ⟨i0, i1, i2, i3⟩ := box_cells HBX4.out; have c4 := m4.makeR HOK.out (fun hf => HT2.out.fits_ok hf) (pv := .slice au xs.length cu) (Rd.of_own (own_kept k4 (own_kept (Kept.of_below hb3) (own_kept (Kept.of_below (Below.refl _ _).drew) HO2.out)))).1 (by rw [HSL.out]; have := HL.out; omega) (by have := HR.out; omega))
      | (go_at_call 57; refine c4.mono ?_; rintro e w5 ⟨rfl, t5, k5⟩))
    all_goals
      have HT := Lib.hid t5
      have HK := Lib.hid (HK2.out.trans ((Kept.of_below (Below.refl _ _).drew).trans ((Kept.of_below hb3).trans (k4.trans k5))))
      clear t5 k4 k5 m4 hb3 ho3
      go_wp2_with fail
      go_ret2
      exact ⟨rfl, HT.out, HK.out⟩

/-- A step, whatever it is. -/
theorem do_any {w0 w : World} {tb mb rb : Nat} {N : List Nd} (h : Two w0 w tb mb rb N) (hroom : N.length ≤ 60000) (k : Int) (t : ByteArray) (ht : t.size ≤ 2048) {ao : Option Addr} {cp : Nat} (near : Bool) {xs : List Int} (hx : Rd .i64 w (.slice ao xs.length cp) xs) (hl : xs.length ≤ 20) :
    Calls Try.prog 19 #[.pointer (some ⟨tb, 0, none⟩), .pointer (some ⟨rb, 0, none⟩), .agg #[.int .i64 k, .string t, .slice ao xs.length cp, .bool near]] w fun e w' => e = .returned (.tuple #[.int .i64 (doN N k t near xs).1, .int .i64 (doN N k t near xs).1]) ∧ Two w0 w' tb mb rb (doN N k t near xs).2 ∧ Kept w w' := by
  unfold doN
  by_cases h1 : k = 1
  · rw [if_pos h1]
    exact do_text h (by omega) (Lib.hid h1) t ht ao _ cp near
  · rw [if_neg h1]
    by_cases h2 : k = 2
    · rw [if_pos h2]
      exact do_secret h (by omega) (Lib.hid h2) t ao _ cp near
    · rw [if_neg h2]
      exact do_make h hroom h1 h2 t near hx hl
theorem doN_len (N : List Nd) (k : Int) (t : ByteArray) (near : Bool) (xs : List Int) : N.length ≤ (doN N k t near xs).2.length ∧ (doN N k t near xs).2.length ≤ N.length + 1 := by
  unfold doN
  split
  · exact putN_len _ _
  · split
    · exact putN_len _ _
    · exact makeN_len _ _ _
#print axioms do_any
#print axioms do_secret
#print axioms do_text
end Go.Proofs.Ytbhfilmbokaboaa
