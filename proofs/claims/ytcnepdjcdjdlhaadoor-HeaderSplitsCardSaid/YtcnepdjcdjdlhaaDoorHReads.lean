/- HeaderReads: both Reads tell the same of any bytes. -/
import Derived.Test.YtcnepdjcdjdlhaaDoorHRead2
import Derived.Test.YtcnepdjcdjdlhaaDoorHRefAny
import Derived.Test.YtcnepdjcdjdlhaaDoorHAwake
namespace Go.Proofs.YtcnepdjcdjdlhaaDoor
open Go Go.RowKit

/-- header.Read, whatever the bytes: what it hands back lies in memory of its own. -/
theorem readhead_ra {w : World} {v : Value} {zs : List Int} (hr : Rd w v zs) (hp : Plain v) (hl : zs.length ≤ 1000000) :
    Calls Tryd.prog 17 #[v] w fun e w' => ∃ vt vf vk, e = .returned (.tuple #[.agg (hcells (refP zs).1 vt vf vk), .int .i64 ((refP zs).2.1 : Nat), .int .i64 (refP zs).2.2.1, .int .i64 (refP zs).2.2.2]) ∧ HrA w.heap.size w' (refP zs).1 vt vf vk ∧ Below w.heap.size w w' := by
  have hR := ref_eq hr.byt
  cases hp' : readP zs with
  | ok s =>
    rw [hp'] at hR
    rw [hR]
    exact read_okA hr hp hl s hp'
  | error k =>
    rw [hp'] at hR
    rw [hR]
    refine (read_errW hr hp hl k hp').mono ?_
    rintro e w' ⟨rfl, hb⟩
    have hn : ∀ lo, Ra lo w' (.slice none 0 0) [] := fun lo => ⟨Rd.nil _, fun _ _ _ h => by cases h⟩
    exact ⟨.slice none 0 0, .slice none 0 0, .slice none 0 0, rfl, ⟨hn _, hn _, hn _⟩, hb⟩
theorem readhead_any {w : World} {v : Value} {zs : List Int} (hr : Rd w v zs) (hp : Plain v) (hl : zs.length ≤ 1000000) :
    Calls Tryd.prog 17 #[v] w fun e w' => ∃ vt vf vk, e = .returned (.tuple #[.agg (hcells (refP zs).1 vt vf vk), .int .i64 ((refP zs).2.1 : Nat), .int .i64 (refP zs).2.2.1, .int .i64 (refP zs).2.2.2]) ∧ Hr w' (refP zs).1 vt vf vk ∧ Below w.heap.size w w' :=
  (readhead_ra hr hp hl).mono fun _ _ ⟨vt, vf, vk, he, hh, hb⟩ => ⟨vt, vf, vk, he, hh.hr, hb⟩

set_option maxRecDepth 20000 in
set_option maxHeartbeats 4000000 in
theorem hreads_walk {w : World} {v : Value} {zs : List Int} (hr : Rd w v zs) (hp : Plain v) :
    Calls Tryd.prog 4 #[v] w fun e w' => e = .returned (.bool true) ∧ Below w.heap.size w w' := by
  have hlen := hr.len
  by_cases hl : zs.length ≤ 1500
  · obtain ⟨ao, cap, rfl⟩ := hr.shape
    have hO := own_fresh w 5
    have hR := hr.alloc (.cells #[] 5)
    have hl' : 0 + zs.length ≤ 140737488355328 := by omega
    have hs : w.heap.size ≤ (w.alloc (.cells #[] 5)).heap.size := by simp
    have hB := below_alloc w (.cells #[] 5)
    have hz := hr.byt
    have HRR := Lib.hid hr
    have HP := Lib.hid hp
    clear hr hp
    go_enter Tryd.func4, Tryd.ntmps4
    go_wp2_with (at_builtin; refine wpList_append_bytes (.tmp 15) (.tmp 16) 22 rfl rfl info5 Tryd.underlying22 w.heap.size _ 0 [] rfl hO _ zs rfl hR hl' hs ?_; intro v2 w2 hown2 hb2)
    simp only [List.nil_append, Nat.zero_add] at hown2
    have hra := ra_own hown2 hz
    have HB2 := Lib.hid (hB.trans hb2)
    have hc := readhead_any hra.1.rd hra.2 (by omega)
    clear hown2 hb2 hra hO hR hB hs
    go_wp2_with fail
    refine hc.mono ?_
    rintro e w3 ⟨vt, vf, vk, rfl, hh, hb3⟩
    obtain ⟨a1, n1, c1, rfl⟩ := hh.to.shape3
    obtain ⟨a2, n2, c2, rfl⟩ := hh.fr.shape3
    obtain ⟨a3, n3, c3, rfl⟩ := hh.tk.shape3
    have HB3 := Lib.hid (HB2.out.trans (hb3.mono HB2.out.size))
    have hc4 := refhead_any (HRR.out.below (HB3.out.trans ((below_alloc w3 (.cells (hcells (refP zs).1 (.slice a1 n1 c1) (.slice a2 n2 c2) (.slice a3 n3 c3)) 26)).mono HB3.out.size))) HP.out (by omega)
    have HX4 := Lib.hid (heap_alloc_new w3 (.cells (hcells (refP zs).1 (.slice a1 n1 c1) (.slice a2 n2 c2) (.slice a3 n3 c3)) 26))
    have HH4 := Lib.hid (hh.below (below_alloc w3 (.cells (hcells (refP zs).1 (.slice a1 n1 c1) (.slice a2 n2 c2) (.slice a3 n3 c3)) 26)))
    have HB4 := Lib.hid (HB3.out.trans ((below_alloc w3 (.cells (hcells (refP zs).1 (.slice a1 n1 c1) (.slice a2 n2 c2) (.slice a3 n3 c3)) 26)).mono HB3.out.size))
    clear hc hh hb3
    generalize refP zs = q at *
    obtain ⟨h, t, en, er⟩ := q
    simp only at hc4 HX4 HH4 HB4
    unfold hcells at *
    go_wp2_with fail
    refine hc4.mono ?_
    rintro e w5 ⟨ut, uf, uk, rfl, hh5, hb5⟩
    obtain ⟨b1, m1, d1, rfl⟩ := hh5.to.shape3
    obtain ⟨b2, m2, d2, rfl⟩ := hh5.fr.shape3
    obtain ⟨b3, m3, d3, rfl⟩ := hh5.tk.shape3
    have HX5 := Lib.hid (alloc_at (by have := (Array.getElem?_eq_some_iff.1 (row_keep hb5 HX4.out)).1; exact this) (row_keep hb5 HX4.out) (.cells #[.int .i64 h.k, .int .i64 h.v, .slice b1 m1 d1, .slice b2 m2 d2, .slice b3 m3 d3, .int .i64 h.p, .int .i64 h.n, .int .i64 h.w] 24))
    have hx := fun i => cell_of_row _ w3.heap.size i _ 26 (0, 0) HX5.out
    have x0 := hx 0
    have x1 := hx 1
    have x2 := hx 2
    have x3 := hx 3
    have x4 := hx 4
    have x5 := hx 5
    have x6 := hx 6
    have x7 := hx 7
    have hall := below_alloc w5 (.cells #[.int .i64 h.k, .int .i64 h.v, .slice b1 m1 d1, .slice b2 m2 d2, .slice b3 m3 d3, .int .i64 h.p, .int .i64 h.n, .int .i64 h.w] 24)
    have htold := told_true h ((HH4.out.below hb5).below hall) (hh5.below hall)
    have HB6 := Lib.hid ((HB4.out.trans (hb5.mono HB4.out.size)).trans (hall.mono (HB4.out.trans (hb5.mono HB4.out.size)).size))
    have hs := eq_self
    unfold hcells at htold
    clear hx hc4 hh5 hb5 hall
    go_wp2_with fail
    refine htold.mono ?_
    rintro e w7 ⟨rfl, hb7⟩
    have HB7 := Lib.hid (HB6.out.trans (hb7.mono HB6.out.size))
    clear htold hb7 x0 x1 x2 x3 x4 x5 x6 x7
    go_wp2_with fail
    refine (hawake_any w7).mono ?_
    rintro e w8 ⟨rfl, hb8⟩
    go_wp2_with fail
    go_ret
    exact ⟨rfl, HB7.out.trans (hb8.mono HB7.out.size)⟩
  · obtain ⟨ao, cap, rfl⟩ := hr.shape
    have hd : decide (1500 < (zs.length : Int)) = true := decide_eq_true (by omega)
    clear hr hp hl
    go_enter Tryd.func4, Tryd.ntmps4
    go_wp2_with fail
    go_ret
    exact ⟨rfl, Below.refl _ _⟩
#print axioms readhead_any
#print axioms hreads_walk
end Go.Proofs.YtcnepdjcdjdlhaaDoor
