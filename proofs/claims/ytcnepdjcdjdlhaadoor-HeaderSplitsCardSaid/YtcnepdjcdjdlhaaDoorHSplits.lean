/- HeaderSplits: Split tells the packets that the document's own reader finds, one behind the other. -/
import Derived.Test.YtcnepdjcdjdlhaaDoorHSplit2
namespace Go.Proofs.YtcnepdjcdjdlhaaDoor
open Go Go.RowKit

theorem keep18 {S : World → Prop} {w w' : World} (hS : S w) (hb : Below w.heap.size w w') (h : ∀ (_ : S w) (_ : ∀ a v, w.cell? a = some v → w'.cell? a = some v), S w') : S w' := h hS fun _ _ hc => keepS hb hc
set_option maxRecDepth 20000 in
set_option maxHeartbeats 8000000 in
theorem hsplits_walk {w : World} {v : Value} {zs : List Int} (hr : Rd w v zs) (hp : Plain v) :
    Calls Tryd.prog 5 #[v] w fun e w' => e = .returned (.bool true) ∧ Below w.heap.size w w' := by
  have hlen := hr.len
  by_cases hl : zs.length ≤ 1500
  · obtain ⟨ao, cap, rfl⟩ := hr.shape
    have hO := own_fresh w 5
    have hR := hr.alloc (.cells #[] 5)
    have hl' : 0 + zs.length ≤ 140737488355328 := by omega
    have hs : w.heap.size ≤ (w.alloc (.cells #[] 5)).heap.size := by simp
    have hB := below_alloc w (.cells #[] 5)
    have hz := hr.byt
    have HRR := Lib.hid hr
    have HP := Lib.hid hp
    have HL := Lib.hid hl
    clear hr hp
    go_enter Tryd.func5, Tryd.ntmps5
    go_wp2_with (at_builtin; refine wpList_append_bytes (.tmp 15) (.tmp 16) 22 rfl rfl info5 Tryd.underlying22 w.heap.size _ 0 [] rfl hO _ zs rfl hR hl' hs ?_; intro v2 w2 hown2 hb2)
    simp only [List.nil_append, Nat.zero_add] at hown2
    have hra := ra_own hown2 hz
    have HB2 := Lib.hid (hB.trans hb2)
    have hc := split_any hra.1.rd hra.2 (by omega)
    clear hown2 hb2 hra hO hR hB hs hl hl' hlen hz
    go_wp2_with fail
    refine hc.mono ?_
    rintro e w3 ⟨lv, qs, rfl, hown, hpr, hq, hb3⟩
    have HB3 := Lib.hid (HB2.out.trans (hb3.mono HB2.out.size))
    have hlv : ∃ a c, lv = .slice a qs.length c := by
      rcases hown.2 with ⟨h1, h2⟩ | ⟨g, cap, cur, h1, _⟩
      · exact ⟨none, 0, by rw [h1, h2]⟩
      · exact ⟨_, _, h1⟩
    obtain ⟨la, lc, rfl⟩ := hlv
    have HOWN := Lib.hid hown
    have HPR := Lib.hid hpr
    have HQ := Lib.hid (show splitP zs = ((qs.drop 0).map Pk.plain, (splitP zs).2) by rw [List.drop_zero, hq])
    generalize (splitP zs).2 = er at *
    clear hc hb3 hown hpr hq
    go_wp2_with fail
    go_loopw [5, 6] (fun kv rv wr => ∃ (k : Nat) (rest : List Int), kv = .int .i64 k ∧ k ≤ qs.length ∧ Hid (Rd w rv rest) ∧ Hid (Plain rv) ∧ Hid (rest.length ≤ 1500) ∧ Hid (Below w3.heap.size w3 wr) ∧ Hid (splitP rest = ((qs.drop k).map Pk.plain, er))) (fun _ rv _ => slen rv)
    case atStart => exact ⟨0, zs, rfl, Nat.zero_le _, HRR, HP, HL, Lib.hid (Below.refl _ _), HQ⟩
    case round =>
      obtain ⟨k, rest, rfl, hk, hR, hP, hN, hB, hS⟩ := hrel
      by_cases hz : rest = []
      · subst hz
        obtain ⟨ro, rcap, rfl⟩ := hR.out.shape
        have h0 := hS.out
        rw [splitP_nil] at h0
        simp only [Prod.mk.injEq] at h0
        obtain ⟨h0, rfl⟩ := h0
        obtain rfl : k = qs.length := by
          have := congrArg List.length h0
          simp at this
          omega
        have haw := hawake_any wr
        clear h0
        go_wp2_with fail
        refine haw.mono ?_
        rintro e w8 ⟨rfl, hb8⟩
        have HB8 := Lib.hid hb8
        clear hb8 haw
        go_wp2_with fail
        go_ret
        exact ⟨rfl, (HB3.out.trans (hB.out.mono HB3.out.size)).trans (HB8.out.mono (HB3.out.trans (hB.out.mono HB3.out.size)).size)⟩
      · have hpos : 0 < rest.length := List.length_pos_iff.2 hz
        have hsp := splitP_ok hz
        have hse := splitP_err hz
        have hrb := @ref_bounds rest
        have hwr := HB3.out.trans (hB.out.mono HB3.out.size)
        have hc := refhead_any (hR.out.below hwr) hP.out (by have := hN.out; omega)
        obtain ⟨ro, rcap, rfl⟩ := hR.out.shape
        generalize hqq : refP rest = q at *
        obtain ⟨h, s, en, f⟩ := q
        simp only at hc hsp hse hrb
        have HSP := Lib.hid hsp
        have HSE := Lib.hid hse
        have HRB := Lib.hid hrb
        have HWR := Lib.hid hwr
        have Hpos := Lib.hid hpos
        have hd : decide (0 < rest.length) = true := decide_eq_true hpos
        clear hsp hse hrb hqq hwr hz hpos
        go_wp2_with fail
        refine hc.mono ?_
        rintro e w5 ⟨ut, uf, uk, rfl, hh5, hb5⟩
        obtain ⟨b1, m1, d1, rfl⟩ := hh5.to.shape3
        obtain ⟨b2, m2, d2, rfl⟩ := hh5.fr.shape3
        obtain ⟨b3, m3, d3, rfl⟩ := hh5.tk.shape3
        have HH5 := Lib.hid hh5
        have HB5 := Lib.hid hb5
        clear hc hh5 hb5
        unfold hcells
        by_cases hf : f = 0
        · subst hf
          have h0 := hS.out
          rw [HSP.out rfl] at h0
          simp only [Prod.mk.injEq] at h0
          obtain ⟨h0, h1⟩ := h0
          rcases hdr : qs.drop k with _ | ⟨⟨h', hd', bd', vt, vf, vk, vh, vb⟩, r⟩
          · rw [hdr] at h0; simp at h0
          rw [hdr] at h0
          simp only [List.map_cons, List.cons.injEq, Pk.plain, Prod.mk.injEq] at h0
          obtain ⟨⟨rfl, rfl, rfl⟩, ht⟩ := h0
          have hklt : k < qs.length := by
            have := congrArg List.length hdr
            simp at this
            omega
          have hget : qs[k]? = some ⟨h, rest.take s, (rest.take en.toNat).drop s, vt, vf, vk, vh, vb⟩ := by
            have := congrArg (fun l => l[0]?) hdr
            simpa using this
          have hmem := List.mem_of_getElem? hget
          have hpr := HPR.out _ hmem
          obtain ⟨a1, n1, c1, rfl⟩ := hpr.hr.to.rd.shape3
          obtain ⟨a2, n2, c2, rfl⟩ := hpr.hr.fr.rd.shape3
          obtain ⟨a3, n3, c3, rfl⟩ := hpr.hr.tk.rd.shape3
          obtain ⟨a4, n4, c4, rfl⟩ := hpr.hd.rd.shape3
          obtain ⟨a5, n5, c5, rfl⟩ := hpr.bd.rd.shape3
          obtain ⟨hs0, hse, hel⟩ := HRB.out rfl
          obtain ⟨E, rfl⟩ := Int.eq_ofNat_of_zero_le (show 0 ≤ en by omega)
          obtain ⟨o1, hsl1, hr1, hp1⟩ := part_h hR.out hP.out s (by omega)
          obtain ⟨o2, hsl2, hr2, hp2⟩ := part_lh hR.out hP.out s E (by omega) (by omega)
          obtain ⟨o3, hsl3, hr3, hp3⟩ := part_l hR.out hP.out E (by omega)
          have hrow : ∃ g, la = some ⟨g, 0, none⟩ ∧ ∀ j u, (pkcells qs)[j]? = some u → w3.cell? ⟨g, j, none⟩ = some u := by
            rcases HOWN.out.2 with ⟨e1, e2⟩ | ⟨g, cap, cur, e1, _⟩
            · omega
            · simp only [Value.slice.injEq] at e1
              obtain ⟨rfl, _, rfl⟩ := e1
              exact ⟨g, rfl, fun j u hj => by have := World.ownsRow.cells HOWN.out rfl j u hj; rwa [Addr.add_lit, show 0 + j = j by omega] at this⟩
          obtain ⟨g, rfl, hcel⟩ := hrow
          have hgt := fun j (hj : j < 10) => pkcells_get qs k j _ hget hj
          simp only [Pk.cells] at hgt
          obtain ⟨W6, hW6⟩ : ∃ W6, w5.alloc (.cells #[.int .i64 h.k, .int .i64 h.v, .slice b1 m1 d1, .slice b2 m2 d2, .slice b3 m3 d3, .int .i64 h.p, .int .i64 h.n, .int .i64 h.w] 24) = W6 := ⟨_, rfl⟩
          have hb36 : Below w3.heap.size w3 W6 := by
            rw [← hW6]
            have k1 := hB.out.trans (HB5.out.mono hB.out.size)
            exact k1.trans ((below_alloc w5 _).mono k1.size)
          have hcc := fun j u (hj : (pkcells qs)[j]? = some u) => keepS hb36 (hcel j u hj)
          have hbx := fun i => cell_of_row W6 w5.heap.size i _ 24 (0, 0) (by rw [← hW6]; exact heap_alloc_new w5 (.cells #[.int .i64 h.k, .int .i64 h.v, .slice b1 m1 d1, .slice b2 m2 d2, .slice b3 m3 d3, .int .i64 h.p, .int .i64 h.n, .int .i64 h.w] 24))
          have hS6 : (fun w' => w'.cell? ⟨g, k * 10, none⟩ = some (.int .i64 h.k) ∧ w'.cell? ⟨g, k * 10 + 1, none⟩ = some (.int .i64 h.v) ∧ w'.cell? ⟨g, k * 10 + 2, none⟩ = some (.slice a1 n1 c1) ∧ w'.cell? ⟨g, k * 10 + 3, none⟩ = some (.slice a2 n2 c2) ∧ w'.cell? ⟨g, k * 10 + 4, none⟩ = some (.slice a3 n3 c3) ∧ w'.cell? ⟨g, k * 10 + 5, none⟩ = some (.int .i64 h.p) ∧ w'.cell? ⟨g, k * 10 + 6, none⟩ = some (.int .i64 h.n) ∧ w'.cell? ⟨g, k * 10 + 7, none⟩ = some (.int .i64 h.w) ∧ w'.cell? ⟨g, k * 10 + 8, none⟩ = some (.slice a4 n4 c4) ∧ w'.cell? ⟨g, k * 10 + 9, none⟩ = some (.slice a5 n5 c5) ∧ w'.cell? ⟨w5.heap.size, 0, none⟩ = some (.int .i64 h.k) ∧ w'.cell? ⟨w5.heap.size, 1, none⟩ = some (.int .i64 h.v) ∧ w'.cell? ⟨w5.heap.size, 2, none⟩ = some (.slice b1 m1 d1) ∧ w'.cell? ⟨w5.heap.size, 3, none⟩ = some (.slice b2 m2 d2) ∧ w'.cell? ⟨w5.heap.size, 4, none⟩ = some (.slice b3 m3 d3) ∧ w'.cell? ⟨w5.heap.size, 5, none⟩ = some (.int .i64 h.p) ∧ w'.cell? ⟨w5.heap.size, 6, none⟩ = some (.int .i64 h.n) ∧ w'.cell? ⟨w5.heap.size, 7, none⟩ = some (.int .i64 h.w)) W6.drew := ⟨hcc _ _ (hgt 0 (by omega)), hcc _ _ (hgt 1 (by omega)), hcc _ _ (hgt 2 (by omega)), hcc _ _ (hgt 3 (by omega)), hcc _ _ (hgt 4 (by omega)), hcc _ _ (hgt 5 (by omega)), hcc _ _ (hgt 6 (by omega)), hcc _ _ (hgt 7 (by omega)), hcc _ _ (hgt 8 (by omega)), hcc _ _ (hgt 9 (by omega)), hbx 0, hbx 1, hbx 2, hbx 3, hbx 4, hbx 5, hbx 6, hbx 7⟩
          have hkeep : Hid (∀ X Y, Below X.heap.size X Y → (fun w' => w'.cell? ⟨g, k * 10, none⟩ = some (.int .i64 h.k) ∧ w'.cell? ⟨g, k * 10 + 1, none⟩ = some (.int .i64 h.v) ∧ w'.cell? ⟨g, k * 10 + 2, none⟩ = some (.slice a1 n1 c1) ∧ w'.cell? ⟨g, k * 10 + 3, none⟩ = some (.slice a2 n2 c2) ∧ w'.cell? ⟨g, k * 10 + 4, none⟩ = some (.slice a3 n3 c3) ∧ w'.cell? ⟨g, k * 10 + 5, none⟩ = some (.int .i64 h.p) ∧ w'.cell? ⟨g, k * 10 + 6, none⟩ = some (.int .i64 h.n) ∧ w'.cell? ⟨g, k * 10 + 7, none⟩ = some (.int .i64 h.w) ∧ w'.cell? ⟨g, k * 10 + 8, none⟩ = some (.slice a4 n4 c4) ∧ w'.cell? ⟨g, k * 10 + 9, none⟩ = some (.slice a5 n5 c5) ∧ w'.cell? ⟨w5.heap.size, 0, none⟩ = some (.int .i64 h.k) ∧ w'.cell? ⟨w5.heap.size, 1, none⟩ = some (.int .i64 h.v) ∧ w'.cell? ⟨w5.heap.size, 2, none⟩ = some (.slice b1 m1 d1) ∧ w'.cell? ⟨w5.heap.size, 3, none⟩ = some (.slice b2 m2 d2) ∧ w'.cell? ⟨w5.heap.size, 4, none⟩ = some (.slice b3 m3 d3) ∧ w'.cell? ⟨w5.heap.size, 5, none⟩ = some (.int .i64 h.p) ∧ w'.cell? ⟨w5.heap.size, 6, none⟩ = some (.int .i64 h.n) ∧ w'.cell? ⟨w5.heap.size, 7, none⟩ = some (.int .i64 h.w)) X → (fun w' => w'.cell? ⟨g, k * 10, none⟩ = some (.int .i64 h.k) ∧ w'.cell? ⟨g, k * 10 + 1, none⟩ = some (.int .i64 h.v) ∧ w'.cell? ⟨g, k * 10 + 2, none⟩ = some (.slice a1 n1 c1) ∧ w'.cell? ⟨g, k * 10 + 3, none⟩ = some (.slice a2 n2 c2) ∧ w'.cell? ⟨g, k * 10 + 4, none⟩ = some (.slice a3 n3 c3) ∧ w'.cell? ⟨g, k * 10 + 5, none⟩ = some (.int .i64 h.p) ∧ w'.cell? ⟨g, k * 10 + 6, none⟩ = some (.int .i64 h.n) ∧ w'.cell? ⟨g, k * 10 + 7, none⟩ = some (.int .i64 h.w) ∧ w'.cell? ⟨g, k * 10 + 8, none⟩ = some (.slice a4 n4 c4) ∧ w'.cell? ⟨g, k * 10 + 9, none⟩ = some (.slice a5 n5 c5) ∧ w'.cell? ⟨w5.heap.size, 0, none⟩ = some (.int .i64 h.k) ∧ w'.cell? ⟨w5.heap.size, 1, none⟩ = some (.int .i64 h.v) ∧ w'.cell? ⟨w5.heap.size, 2, none⟩ = some (.slice b1 m1 d1) ∧ w'.cell? ⟨w5.heap.size, 3, none⟩ = some (.slice b2 m2 d2) ∧ w'.cell? ⟨w5.heap.size, 4, none⟩ = some (.slice b3 m3 d3) ∧ w'.cell? ⟨w5.heap.size, 5, none⟩ = some (.int .i64 h.p) ∧ w'.cell? ⟨w5.heap.size, 6, none⟩ = some (.int .i64 h.n) ∧ w'.cell? ⟨w5.heap.size, 7, none⟩ = some (.int .i64 h.w)) Y) := Lib.hid fun X Y hb h => ⟨keepS hb h.1, keepS hb h.2.1, keepS hb h.2.2.1, keepS hb h.2.2.2.1, keepS hb h.2.2.2.2.1, keepS hb h.2.2.2.2.2.1, keepS hb h.2.2.2.2.2.2.1, keepS hb h.2.2.2.2.2.2.2.1, keepS hb h.2.2.2.2.2.2.2.2.1, keepS hb h.2.2.2.2.2.2.2.2.2.1, keepS hb h.2.2.2.2.2.2.2.2.2.2.1, keepS hb h.2.2.2.2.2.2.2.2.2.2.2.1, keepS hb h.2.2.2.2.2.2.2.2.2.2.2.2.1, keepS hb h.2.2.2.2.2.2.2.2.2.2.2.2.2.1, keepS hb h.2.2.2.2.2.2.2.2.2.2.2.2.2.2.1, keepS hb h.2.2.2.2.2.2.2.2.2.2.2.2.2.2.2.1, keepS hb h.2.2.2.2.2.2.2.2.2.2.2.2.2.2.2.2.1, keepS hb h.2.2.2.2.2.2.2.2.2.2.2.2.2.2.2.2.2⟩
          have hwb6 : Below w.heap.size w W6.drew := (HB3.out.trans (hb36.mono HB3.out.size)).drew
          have hb56 : Below w5.heap.size w5 W6 := by rw [← hW6]; exact below_alloc _ _
          have htold := told_true h (w := W6.drew) (vt := .slice a1 n1 c1) (vf := .slice a2 n2 c2) (vk := .slice a3 n3 c3) (hpr.hr.hr.below hb36.drew) (HH5.out.below hb56.drew)
          have HSL := Lib.hid (And.intro (hr1.below hwb6) (hr2.below hwb6))
          have HPL := Lib.hid (And.intro (hpr.hd.rd.below hb36.drew) (hpr.bd.rd.below hb36.drew))
          have HR3 := Lib.hid hr3
          have HP3 := Lib.hid hp3
          have HB36 := Lib.hid hb36
          have HIN := Lib.hid (And.intro hs0 (And.intro hse hel))
          have HNX : Hid (splitP (rest.drop E) = ((qs.drop (k + 1)).map Pk.plain, er)) := Lib.hid (by
            have e1 : qs.drop (k + 1) = r := by rw [← List.drop_drop, hdr]; rfl
            rw [e1]
            refine Prod.ext ?_ ?_
            · exact ht
            · exact h1)
          have hkl : (k : Int) < (qs.length : Int) := by omega
          have hgn : decide (qs.length ≤ k) = false := decide_eq_false (by omega)
          have hge : decide ((qs.length : Int) ≤ (k : Int)) = false := decide_eq_false (by omega)
          unfold hcells at htold
          clear hr1 hr2 hr3 hp1 hp2 hp3 hs0 hse hel hcel hcc hbx hgt hget hmem hpr hb36 hdr ht h1 hb56 hwb6
          go_wp2_with fail
          go_region_held3 (fun w' => w'.cell? ⟨g, k * 10, none⟩ = some (.int .i64 h.k) ∧ w'.cell? ⟨g, k * 10 + 1, none⟩ = some (.int .i64 h.v) ∧ w'.cell? ⟨g, k * 10 + 2, none⟩ = some (.slice a1 n1 c1) ∧ w'.cell? ⟨g, k * 10 + 3, none⟩ = some (.slice a2 n2 c2) ∧ w'.cell? ⟨g, k * 10 + 4, none⟩ = some (.slice a3 n3 c3) ∧ w'.cell? ⟨g, k * 10 + 5, none⟩ = some (.int .i64 h.p) ∧ w'.cell? ⟨g, k * 10 + 6, none⟩ = some (.int .i64 h.n) ∧ w'.cell? ⟨g, k * 10 + 7, none⟩ = some (.int .i64 h.w) ∧ w'.cell? ⟨g, k * 10 + 8, none⟩ = some (.slice a4 n4 c4) ∧ w'.cell? ⟨g, k * 10 + 9, none⟩ = some (.slice a5 n5 c5) ∧ w'.cell? ⟨w5.heap.size, 0, none⟩ = some (.int .i64 h.k) ∧ w'.cell? ⟨w5.heap.size, 1, none⟩ = some (.int .i64 h.v) ∧ w'.cell? ⟨w5.heap.size, 2, none⟩ = some (.slice b1 m1 d1) ∧ w'.cell? ⟨w5.heap.size, 3, none⟩ = some (.slice b2 m2 d2) ∧ w'.cell? ⟨w5.heap.size, 4, none⟩ = some (.slice b3 m3 d3) ∧ w'.cell? ⟨w5.heap.size, 5, none⟩ = some (.int .i64 h.p) ∧ w'.cell? ⟨w5.heap.size, 6, none⟩ = some (.int .i64 h.n) ∧ w'.cell? ⟨w5.heap.size, 7, none⟩ = some (.int .i64 h.w))
            (first | with_reducible exact hS6 | with_reducible exact hS7 | with_reducible exact hS8 | with_reducible exact hS9)
            (first
              | (go_at_call 19; with_reducible refine htold.mono ?_; rintro e W7 ⟨rfl, hb7⟩; have hS7 := hkeep.out _ _ hb7 hS6; have hsm1 := same_true (HPL.out.1.below hb7) (HSL.out.1.below hb7); have HB7 := Lib.hid hb7; clear hb7)
              | (go_at_call 15; with_reducible refine hsm1.mono ?_; rintro e W8 ⟨rfl, hb8⟩; have hS8 := hkeep.out _ _ hb8 hS7; have hsm2 := same_true ((HPL.out.2.below HB7.out).below hb8) ((HSL.out.2.below HB7.out).below hb8); have HB8 := Lib.hid hb8; clear hb8)
              | (go_at_call 15; with_reducible refine hsm2.mono ?_; rintro e W9 ⟨rfl, hb9⟩; have hS9 := hkeep.out _ _ hb9 hS8; have HB9 := Lib.hid hb9; clear hb9))
          have HBF : Hid (Below w3.heap.size w3 W9) := Lib.hid (by
            have k1 := HB36.out.drew.trans (HB7.out.mono HB36.out.drew.size)
            have k2 := k1.trans (HB8.out.mono k1.size)
            exact k2.trans (HB9.out.mono k2.size))
          clear hS6 hS7 hS8 hS9 hkeep htold hsm1 hsm2
          go_wp2_with fail
          go_roundw
          case rel =>
            have hkm : qs.length ≤ 9223372036854775807 := by
              rcases HOWN.out.2 with ⟨_, e2⟩ | ⟨_, cap, _, _, _, _, e1, e2, _⟩
              · omega
              · unfold maxLen at e2; omega
            have e : wrap64 ((k : Int) + 1) = ((k + 1 : Nat) : Int) := by rw [IntWalk.wrap64_in _ ⟨by omega, by omega⟩]; omega
            exact ⟨k + 1, rest.drop E, by rw [e], by omega, HR3, HP3, Lib.hid (by have := hN.out; simp; omega), HBF, HNX⟩
          case measure => have := HIN.out; have := Hpos.out; simp only [slen]; omega
        · have hnn : (f != 0) = true := by simp [hf]
          have h0 := hS.out
          rw [HSE.out hf] at h0
          simp only [Prod.mk.injEq] at h0
          obtain ⟨h0, rfl⟩ := h0
          obtain rfl : k = qs.length := by
            have := congrArg List.length h0
            simp at this
            omega
          have haw := hawake_any (w5.alloc (.cells #[.int .i64 h.k, .int .i64 h.v, .slice b1 m1 d1, .slice b2 m2 d2, .slice b3 m3 d3, .int .i64 h.p, .int .i64 h.n, .int .i64 h.w] 24))
          clear h0
          go_wp2_with fail
          refine haw.mono ?_
          rintro e w8 ⟨rfl, hb8⟩
          have HB8 := Lib.hid hb8
          clear hb8 haw
          go_wp2_with fail
          go_ret
          have k1 := HWR.out.trans (HB5.out.mono HWR.out.size)
          have k2 := k1.trans ((below_alloc w5 (.cells #[.int .i64 h.k, .int .i64 h.v, .slice b1 m1 d1, .slice b2 m2 d2, .slice b3 m3 d3, .int .i64 h.p, .int .i64 h.n, .int .i64 h.w] 24)).mono k1.size)
          exact ⟨rfl, k2.trans (HB8.out.mono k2.size)⟩
  · obtain ⟨ao, cap, rfl⟩ := hr.shape
    have hd : decide (1500 < (zs.length : Int)) = true := decide_eq_true (by omega)
    clear hr hp hl
    go_enter Tryd.func5, Tryd.ntmps5
    go_wp2_with fail
    go_ret
    exact ⟨rfl, Below.refl _ _⟩
#print axioms hsplits_walk
end Go.Proofs.YtcnepdjcdjdlhaaDoor
