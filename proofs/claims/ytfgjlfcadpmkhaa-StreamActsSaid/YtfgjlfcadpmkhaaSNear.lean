/- stream.near: which pieces touch a new one; has one of them another byte? -/
import Derived.Test.YtfgjlfcadpmkhaaSSt
import Derived.Deep.QuietTactic
import Derived.BigQuiet
import Derived.Laws.IdiomRangeMap
namespace Go.Proofs.Ytfgjlfcadpmkhaa
open Go Go.RowKit
variable {gs : List Nat}

def mkS (c : Option Addr × Nat × Nat) : Value := .slice c.1 c.2.1 c.2.2
theorem info3 : (Try.prog.info? 3).map (fun i => (i.zero, i.size, i.bytes)) = some (some (.int .i64 0), 1, 8) := by kernel_rfl
/-- What near has found when only the keys 'left' are still to come. -/
structure Found (at' : Int) (zs : List Int) (E : Int → Option (List Int)) (left : Lit → Bool) (L : List Int) : Prop where
  nd : L.Nodup
  on : ∀ s ∈ L, left (.int .i64 s) = false ∧ ∃ l, E s = some l ∧ Touch at' zs.length s l.length
  all : ∀ s l, E s = some l → left (.int .i64 s) = false → Touch at' zs.length s l.length → s ∈ L ∧ Alike at' zs s l

theorem wrap_nat {a : Int} {n : Nat} (h : a = (n : Int)) (hn : n ≤ 9223372036854775807) : IntKind.i64.wrap a = (n : Int) := by
  subst h
  exact IntWalk.i64_in _ ⟨by omega, by omega⟩
/-- A part between two places, the places in whatever words. -/
theorem part_at {w : World} {ao : Option Addr} {cap : Nat} {zs : List Int} (hr : Rd w (.slice ao zs.length cap) zs) (hp : Plain (.slice ao zs.length cap)) (l h : Nat) (h1 : l ≤ h) (h2 : h ≤ zs.length) {P Q : Int} (hP : P = (l : Int)) (hQ : Q = (h : Int)) :
    ∃ a', (∀ wx, (Instr.slice 29 (.slice ao zs.length cap) (some (.int .i64 P)) (some (.int .i64 Q)) none).run Try.prog wx = .ok (.slice a' (h - l) (cap - l)) wx) ∧ Rd w (.slice a' (h - l) (cap - l)) ((zs.take h).drop l) := by
  subst hP
  subst hQ
  obtain ⟨a', e, h3, _⟩ := part_lh hr hp l h h1 h2
  exact ⟨a', e, h3⟩

theorem over_is {at' s : Int} {zs l : List Int} {p q : Nat} (hp : max at' s - at' = (p : Int)) (hq : min (at' + zs.length) (s + l.length) - at' = (q : Int)) : over at' zs s l = (zs.take q).drop p := by
  unfold over
  rw [hp, hq]
  simp
theorem left_other {left : Lit → Bool} {x s : Int} (h : (left (.int .i64 s) && !(Lit.int IntKind.i64 s).sameKey (.int .i64 x)) = false) : left (.int .i64 s) = false ∨ s = x := by
  cases hl : left (.int .i64 s) with
  | false => exact .inl rfl
  | true =>
    rw [hl] at h
    simp at h
    have := WideAt.sameKey_eq h
    cases this
    exact .inr rfl
theorem Found.touch {at' x : Int} {zs l : List Int} {E : Int → Option (List Int)} {left : Lit → Bool} {L : List Int} (h : Found at' zs E left L) (hx : left (.int .i64 x) = true) (hE : E x = some l) (ht : Touch at' zs.length x l.length) (ha : Alike at' zs x l) :
    Found at' zs E (fun z => left z && !z.sameKey (.int .i64 x)) (L ++ [x]) := by
  have hn : x ∉ L := fun hm => by rw [(h.on x hm).1] at hx; cases hx
  have hk : (Lit.int IntKind.i64 x).sameKey (.int .i64 x) = true := by simp [Lit.sameKey]
  refine ⟨?_, fun s hs => ?_, fun s l' h1 h2 h3 => ?_⟩
  · rw [List.nodup_append]
    refine ⟨h.nd, by simp, ?_⟩
    intro a hm b hb e
    obtain rfl : b = x := by simpa using hb
    exact hn (e ▸ hm)
  · rcases List.mem_append.1 hs with hs | hs
    · exact ⟨by simp [(h.on s hs).1], (h.on s hs).2⟩
    · obtain rfl : s = x := by simpa using hs
      exact ⟨by simp [hk], l, hE, ht⟩
  · rcases left_other h2 with e | rfl
    · exact ⟨List.mem_append_left _ (h.all s l' h1 e h3).1, (h.all s l' h1 e h3).2⟩
    · rw [hE] at h1
      cases h1
      exact ⟨by simp, ha⟩
theorem Found.pass {at' x : Int} {zs l : List Int} {E : Int → Option (List Int)} {left : Lit → Bool} {L : List Int} (h : Found at' zs E left L) (_hx : left (.int .i64 x) = true) (hE : E x = some l) (ht : ¬ Touch at' zs.length x l.length) :
    Found at' zs E (fun z => left z && !z.sameKey (.int .i64 x)) L := by
  refine ⟨h.nd, fun s hs => ⟨by simp [(h.on s hs).1], (h.on s hs).2⟩, fun s l' h1 h2 h3 => ?_⟩
  rcases left_other h2 with e | rfl
  · exact h.all s l' h1 e h3
  · rw [hE] at h1
    cases h1
    exact absurd h3 ht
theorem ranges_below {w w' : World} {b r n cnt : Nat} {D : DataW Value} {left : Lit → Bool} (h : w.ranges Try.prog 3 sR b r n D left cnt) (hb : Below w.heap.size w w') : w'.ranges Try.prog 3 sR b r n D left cnt := by
  have h1 := h.owns.lt
  have h2 := h.lt
  obtain ⟨es, clock, since, seen, c0, hbk, F, hs, hD, hr, rest⟩ := h
  exact ⟨es, clock, since, seen, c0, (hb.block _ h1).trans hbk, F, hs, hD, (hb.block _ h2).trans hr, rest⟩
theorem iter_below {w wr w1 : World} (h : Below w.heap.size w wr) (hg : wr.grownBy w1 (some w.heap.size)) : Below w.heap.size w w1 :=
  h.trans ((Below.refl w.heap.size wr).grown hg h.size fun k hk => by cases hk; exact Nat.le_refl _)
theorem row_far {w : World} {base mb : Nat} {v : Value} {n : Nat} {xs : List Value} (h : w.ownsRow (base + 1) 3 1 v n xs) (hm : mb < base) : some mb ≠ v.ownBlock := fun e => by
  have := (h.lt mb e.symm).1; omega
theorem row_far2 {w : World} {base : Nat} {v : Value} {n : Nat} {xs : List Value} (h : w.ownsRow (base + 1) 3 1 v n xs) : some base ≠ v.ownBlock := fun e => by
  have := (h.lt base e.symm).1; omega

set_option maxRecDepth 20000 in
set_option maxHeartbeats 4000000 in
theorem near_none {w : World} {B t N : Nat} {E : Int → Option (List Int)} {v : Value} {zs : List Int} (at' : Int) (h : St gs w B none t N E) (hr : Rd w v zs) :
    Calls Try.prog 13 #[.pointer (some ⟨B, 0, none⟩), .int .i64 at', v] w (NearPost w at' zs E) := by
  obtain ⟨c0, c1, cf⟩ := h.cells
  have hE : ∀ k, E k = none := by
    rcases h.mp with ⟨_, h⟩ | ⟨_, _, h, _⟩
    · exact h
    · cases h
  obtain ⟨ao, n, cap, rfl⟩ := hr.shape3
  clear h hr
  have hrg := run_range_nilMap (P := Try.prog) w 24 3 29 Try.underlying24
  have hnx : ∀ ty, (Instr.next (.pointer (some ⟨w.heap.size, 0, none⟩)) false ty).run Try.prog (w.alloc (.mapIter none 0 #[] 0)) = _ := fun ty => run_next_nilMap w ty 0 0 #[]
  go_enter Try.func13, Try.ntmps13
  go_wp2_with fail
  refine wp_loop_rounds 1 ?_
  rw [rounds_succ]
  go_wp2_with fail
  go_ret2
  refine ⟨_, [], true, rfl, below_alloc _ _, .inl ⟨rfl, World.ownsRow_nil _ _ _ _, List.nodup_nil, by simp, fun s => ?_, fun s l h => ?_⟩⟩
  · constructor
    · intro h; cases h
    · rintro ⟨l, h, _⟩; rw [hE s] at h; cases h
  · rw [hE s] at h; cases h

set_option maxRecDepth 20000 in
set_option maxHeartbeats 4000000 in
theorem near_some {w : World} {B mb t N : Nat} {E : Int → Option (List Int)} {v : Value} {zs : List Int} (at' : Int) (hN : N ≤ 1000000) (h : St gs w B (some mb) t N E) (hr : Rd w v zs) (hp : Plain v) (h0 : 0 ≤ at' ∧ at' ≤ 2000000000) (hl : zs.length ≤ 1000000) :
    Calls Try.prog 13 #[.pointer (some ⟨B, 0, none⟩), .int .i64 at', v] w (NearPost w at' zs E) := by
  obtain ⟨c0, c1, cf⟩ := h.cells
  obtain ⟨mb', f, e, ⟨D, hown, hsay⟩, hV⟩ := h.mp.resolve_left (fun h => by cases h.1)
  cases e
  have HN := Lib.hid hN
  have HP := Lib.hid hp
  have HR := Lib.hid hr
  have HV := Lib.hid hV
  have HS := Lib.hid hsay
  have HPC := Lib.hid h.pcs
  have HT := Lib.hid h.tb
  have hsz := hown.size_le
  obtain ⟨ao, cap, rfl⟩ := hr.shape
  clear h hr hp hV hsay hN
  go_enter Try.func13, Try.ntmps13
  go_wp2_with (at_range; refine wpList_range_own _ rfl _ 24 rfl 3 29 key3 Try.underlying24 _ mb N D rfl hown ?_; intro w0 hrg0 hg0 hs0)
  go_frame
  go_loopw [8] (fun lv wr => ∃ (left : Lit → Bool) (cnt : Nat) (L : List Int), wr.ranges Try.prog 3 sR mb w.heap.size N D left cnt ∧ L.length + cnt ≤ N ∧ Hid (Found at' zs E left L) ∧ Hid (wr.ownsRow (w.heap.size + 1) 3 1 lv L.length (L.map (Value.int .i64))) ∧ Hid (Below w.heap.size w wr)) (fun _ wr => wr.rangeLeft mb w.heap.size)
  case atStart =>
    refine ⟨_, _, [], hrg0, by simpa using hsz, Lib.hid ⟨List.nodup_nil, (fun s h => by cases h), fun s l h1 h2 => ?_⟩, Lib.hid (World.ownsRow_nil _ _ _ _), Lib.hid (below_made hg0)⟩
    exfalso
    obtain ⟨v, hv, _⟩ := HV.out.back h1
    have hb := HPC.out.lo s l h1
    have := ((HS.out s (wf_of (by omega) (by have := HT.out; omega))).2 v hv).1
    rw [h2] at this
    cases this
  case round =>
    obtain ⟨left, cnt, L, hrg, hlc, hF, hO, hB⟩ := hrel
    go_wp2_with (at_next; refine wpList_next_ranges _ rfl _ rfl 3 key3 sR (Value.int .i64) mkS (fun key kl h => by obtain ⟨x, rfl, _⟩ := Maps.keyOf_int_inv Try.underlying3 h; exact ⟨x, rfl⟩) (fun v y h => by obtain ⟨⟨a, n, c, rfl⟩, _⟩ := sR_inv h; exact ⟨(a, n, c), rfl⟩) mb w.heap.size N D _ _ rfl hrg ?_ ?_)
    · intro hc0 hl0
      go_wp2_with fail
      go_ret2
      refine ⟨_, L, true, rfl, hB.out, .inl ⟨rfl, own_mono hO.out (by omega), hF.out.nd, by have := HN.out; omega, fun s => ?_, fun s l h1 h2 => ?_⟩⟩
      · constructor
        · intro h; exact (hF.out.on s h).2
        · rintro ⟨l, h1, h2⟩; exact (hF.out.all s l h1 (hl0 _) h2).1
      · exact (hF.out.all s l h1 (hl0 _) h2).2
    · intro x ca cn cc kl yd yp w1 cnt1 hkey hlk hRv hat hrg1 hlt hg1 hs1 hen
      have hx : kl = .int .i64 x ∧ (Lit.int .i64 x).wf = true := by
        obtain ⟨x', e1, e2, e3⟩ := Maps.keyOf_int_inv Try.underlying3 hkey
        cases e1
        exact ⟨e2, e3⟩
      obtain ⟨rfl, hwf⟩ := hx
      have hyd : yd = .held (mkS (ca, cn, cc)) := by
        have e := (sR_inv hRv).2
        simp only [Prod.mk.injEq] at e
        exact e.1
      subst hyd
      have hfx : f x = some (mkS (ca, cn, cc)) := by
        cases hf : f x with
        | none =>
          have e := Maps.atKey_of_not_has (z := DataW.nil) ((HS.out x hwf).1 hf)
          rw [hat] at e
          cases e
        | some u =>
          have e := ((HS.out x hwf).2 u hf).2 DataW.nil
          rw [hat] at e
          simp only [DataW.held.injEq] at e
          rw [e]
      obtain ⟨l, hEx, hrl, hpl⟩ := HV.out.get hfx
      obtain ⟨ca', cc', e⟩ := hrl.shape
      simp only [mkS, Value.slice.injEq] at e
      obtain ⟨rfl, rfl, rfl⟩ := e
      simp only [mkS] at hen hrl hpl
      have hxb := HPC.out.lo x l hEx
      have ht := HT.out
      have hrw := HR.out.below hB.out
      have hBW : Below w.heap.size w w1 := iter_below hB.out hg1
      have HBW := Lib.hid hBW
      have HO1 := Lib.hid (own_same hO.out fun g hg => hg1.block g (hO.out.lt g hg).2 (fun e => by have := (hO.out.lt g hg).1; cases e; omega))
      have HEX := Lib.hid hEx
      have hmlt : mb < w.heap.size := hown.lt
      by_cases h1 : at' < x
      · by_cases h2 : at' + zs.length ≤ x + l.length
        · by_cases h3 : x ≤ at' + (zs.length : Int)
          · have hd3 : decide (at' + (zs.length : Int) < x) = false := decide_eq_false (by omega)
            have htc : Touch at' zs.length x l.length := ⟨by omega, by omega⟩
            obtain ⟨p, hp⟩ : ∃ p : Nat, x - at' = (p : Int) := ⟨(x - at').toNat, by omega⟩
            obtain ⟨q, hq⟩ : ∃ q : Nat, at' + (zs.length : Int) - at' = (q : Int) := ⟨(at' + (zs.length : Int) - at').toNat, by omega⟩
            obtain ⟨p2, hp2⟩ : ∃ p : Nat, x - x = (p : Int) := ⟨(x - x).toNat, by omega⟩
            obtain ⟨q2, hq2⟩ : ∃ q : Nat, at' + (zs.length : Int) - x = (q : Int) := ⟨(at' + (zs.length : Int) - x).toNat, by omega⟩
            obtain ⟨o1, hs1', hr1⟩ := part_at HR.out HP.out p q (by omega) (by omega) (P := IntKind.i64.wrap (x - at')) (Q := IntKind.i64.wrap (at' + (zs.length : Int) - at')) (wrap_nat (by omega) (by omega)) (wrap_nat (by omega) (by omega))
            obtain ⟨o2, hs2, hr2⟩ := part_at hrl hpl p2 q2 (by omega) (by omega) (P := IntKind.i64.wrap 0) (Q := IntKind.i64.wrap (at' + (zs.length : Int) - x)) (wrap_nat (by omega) (by omega)) (wrap_nat (by omega) (by omega))
            have hov : Alike at' zs x l ↔ (zs.take q).drop p = (l.take q2).drop p2 := by
              unfold Alike
              rw [over_is (p := p) (q := q) (by omega) (by omega), over_is (p := p2) (q := q2) (by omega) (by omega)]
            have HX := Lib.hid (And.intro htc hov)
            have heq := fun n => equal_any ((hr1.below hBW).below (below_drewN w1 n)) ((hr2.below hBW).below (below_drewN w1 n))
            clear hp hq hp2 hq2 hr1 hr2 hov htc hrw hBW
            generalize (zs.take q).drop p = xs at *
            generalize (l.take q2).drop p2 = ys at *
            go_wp2_with fail
            go_quiet ((go_at_call 16; exact Calls.quiet_of_same (heq _)))
            obtain ⟨W0, hW0⟩ : ∃ W0, w1.drewN nq = W0 := ⟨_, rfl⟩
            have hb0 := below_drewN w1 nq
            rw [hW0] at hb0 ⊢
            have HB0 := Lib.hid (HBW.out.trans (hb0.mono HBW.out.size))
            have HO0 := Lib.hid (own_below HO1.out hb0)
            have HRG := Lib.hid (ranges_below hrg1 hb0)
            clear heq hb0 hW0
            by_cases hA : xs = ys
            · subst hA
              rw [show decide (xs = xs) = true from decide_eq_true rfl]
              have HFN := Lib.hid (hF.out.touch hlk (HEX.out) HX.out.1 (HX.out.2.2 rfl))
              obtain ⟨ip, hip, hz0, hz1, hz2⟩ := info_parts info3
              have HCN := Lib.hid (fun i => cell_of_row _ W0.heap.size i _ 3 (0, 0) (heap_alloc_new W0 (.cells #[.int .i64 x] 3)))
              have hNN := HN.out
              go_wp2_with (
                at_builtin
                refine wpList_append_own _ rfl (.tmp 56) (.tmp 58) 28 rfl (w.heap.size + 1) 3 ip (.int .i64 0) 1 8 Try.underlying28 hip hz0 hz1 hz2 rfl (by decide) _ L.length (L.map (Value.int .i64)) rfl
                  (own_below HO0.out (below_alloc W0 _)) ⟨W0.heap.size, 0, none⟩ 1 1 [.int .i64 x] rfl rfl (cells_at HCN.out) (by intro u hu; simp at hu; subst hu; rfl) (by unfold maxLen; omega) (by omega) (by have := HRG.out.lt; simp; omega) ?_
                intro v' w2 hown' hgrow _)
              go_roundw
              case rel =>
                have hbl : Below w.heap.size (W0.alloc (.cells #[.int .i64 x] 3)) w2 := (below_own (own_below HO0.out (below_alloc W0 _)) (by have := HRG.out.lt; simp; omega) hgrow).mono (by omega)
                refine ⟨_, cnt1, L ++ [x], ?_, by simp; omega, HFN, Lib.hid (by simpa using hown'), Lib.hid ((HB0.out.trans ((below_alloc W0 _).mono HB0.out.size)).trans hbl)⟩
                exact (HRG.out.alloc (.cells #[.int .i64 x] 3)).kept hgrow (row_far (own_below HO0.out (below_alloc W0 (.cells #[.int .i64 x] 3))) hmlt) (row_far2 (own_below HO0.out (below_alloc W0 (.cells #[.int .i64 x] 3))))
              case measure =>
                have e1 := ((HRG.out.alloc (.cells #[.int .i64 x] 3)).kept hgrow (row_far (own_below HO0.out (below_alloc W0 (.cells #[.int .i64 x] 3))) hmlt) (row_far2 (own_below HO0.out (below_alloc W0 (.cells #[.int .i64 x] 3))))).left_eq
                rw [e1, hrg.left_eq]; omega
            · rw [show decide (xs = ys) = false from decide_eq_false hA]
              have HA := Lib.hid hA
              go_wp2_with fail
              go_ret2
              exact ⟨.slice none 0 0, [], false, rfl, HB0.out, .inr ⟨rfl, x, l, HEX.out, HX.out.1, fun h => HA.out (HX.out.2.1 h)⟩⟩
          · have hd3 : decide (at' + (zs.length : Int) < x) = true := decide_eq_true (by omega)
            have HFN := Lib.hid (hF.out.pass hlk HEX.out (fun h : Touch at' zs.length x l.length => by obtain ⟨a1, a2⟩ := h; omega))
            have HRG := Lib.hid hrg1
            clear hrw hBW
            go_wp2_with fail
            go_roundw
            case rel => exact ⟨_, cnt1, L, HRG.out, by omega, HFN, HO1, HBW⟩
            case measure => rw [HRG.out.left_eq, hrg.left_eq]; omega
        · by_cases h3 : x ≤ x + (l.length : Int)
          · have hd3 : decide (x + (l.length : Int) < x) = false := decide_eq_false (by omega)
            have htc : Touch at' zs.length x l.length := ⟨by omega, by omega⟩
            obtain ⟨p, hp⟩ : ∃ p : Nat, x - at' = (p : Int) := ⟨(x - at').toNat, by omega⟩
            obtain ⟨q, hq⟩ : ∃ q : Nat, x + (l.length : Int) - at' = (q : Int) := ⟨(x + (l.length : Int) - at').toNat, by omega⟩
            obtain ⟨p2, hp2⟩ : ∃ p : Nat, x - x = (p : Int) := ⟨(x - x).toNat, by omega⟩
            obtain ⟨q2, hq2⟩ : ∃ q : Nat, x + (l.length : Int) - x = (q : Int) := ⟨(x + (l.length : Int) - x).toNat, by omega⟩
            obtain ⟨o1, hs1', hr1⟩ := part_at HR.out HP.out p q (by omega) (by omega) (P := IntKind.i64.wrap (x - at')) (Q := IntKind.i64.wrap (x + (l.length : Int) - at')) (wrap_nat (by omega) (by omega)) (wrap_nat (by omega) (by omega))
            obtain ⟨o2, hs2, hr2⟩ := part_at hrl hpl p2 q2 (by omega) (by omega) (P := IntKind.i64.wrap 0) (Q := IntKind.i64.wrap (x + (l.length : Int) - x)) (wrap_nat (by omega) (by omega)) (wrap_nat (by omega) (by omega))
            have hov : Alike at' zs x l ↔ (zs.take q).drop p = (l.take q2).drop p2 := by
              unfold Alike
              rw [over_is (p := p) (q := q) (by omega) (by omega), over_is (p := p2) (q := q2) (by omega) (by omega)]
            have HX := Lib.hid (And.intro htc hov)
            have heq := fun n => equal_any ((hr1.below hBW).below (below_drewN w1 n)) ((hr2.below hBW).below (below_drewN w1 n))
            clear hp hq hp2 hq2 hr1 hr2 hov htc hrw hBW
            generalize (zs.take q).drop p = xs at *
            generalize (l.take q2).drop p2 = ys at *
            go_wp2_with fail
            go_quiet ((go_at_call 16; exact Calls.quiet_of_same (heq _)))
            obtain ⟨W0, hW0⟩ : ∃ W0, w1.drewN nq = W0 := ⟨_, rfl⟩
            have hb0 := below_drewN w1 nq
            rw [hW0] at hb0 ⊢
            have HB0 := Lib.hid (HBW.out.trans (hb0.mono HBW.out.size))
            have HO0 := Lib.hid (own_below HO1.out hb0)
            have HRG := Lib.hid (ranges_below hrg1 hb0)
            clear heq hb0 hW0
            by_cases hA : xs = ys
            · subst hA
              rw [show decide (xs = xs) = true from decide_eq_true rfl]
              have HFN := Lib.hid (hF.out.touch hlk (HEX.out) HX.out.1 (HX.out.2.2 rfl))
              obtain ⟨ip, hip, hz0, hz1, hz2⟩ := info_parts info3
              have HCN := Lib.hid (fun i => cell_of_row _ W0.heap.size i _ 3 (0, 0) (heap_alloc_new W0 (.cells #[.int .i64 x] 3)))
              have hNN := HN.out
              go_wp2_with (
                at_builtin
                refine wpList_append_own _ rfl (.tmp 56) (.tmp 58) 28 rfl (w.heap.size + 1) 3 ip (.int .i64 0) 1 8 Try.underlying28 hip hz0 hz1 hz2 rfl (by decide) _ L.length (L.map (Value.int .i64)) rfl
                  (own_below HO0.out (below_alloc W0 _)) ⟨W0.heap.size, 0, none⟩ 1 1 [.int .i64 x] rfl rfl (cells_at HCN.out) (by intro u hu; simp at hu; subst hu; rfl) (by unfold maxLen; omega) (by omega) (by have := HRG.out.lt; simp; omega) ?_
                intro v' w2 hown' hgrow _)
              go_roundw
              case rel =>
                have hbl : Below w.heap.size (W0.alloc (.cells #[.int .i64 x] 3)) w2 := (below_own (own_below HO0.out (below_alloc W0 _)) (by have := HRG.out.lt; simp; omega) hgrow).mono (by omega)
                refine ⟨_, cnt1, L ++ [x], ?_, by simp; omega, HFN, Lib.hid (by simpa using hown'), Lib.hid ((HB0.out.trans ((below_alloc W0 _).mono HB0.out.size)).trans hbl)⟩
                exact (HRG.out.alloc (.cells #[.int .i64 x] 3)).kept hgrow (row_far (own_below HO0.out (below_alloc W0 (.cells #[.int .i64 x] 3))) hmlt) (row_far2 (own_below HO0.out (below_alloc W0 (.cells #[.int .i64 x] 3))))
              case measure =>
                have e1 := ((HRG.out.alloc (.cells #[.int .i64 x] 3)).kept hgrow (row_far (own_below HO0.out (below_alloc W0 (.cells #[.int .i64 x] 3))) hmlt) (row_far2 (own_below HO0.out (below_alloc W0 (.cells #[.int .i64 x] 3))))).left_eq
                rw [e1, hrg.left_eq]; omega
            · rw [show decide (xs = ys) = false from decide_eq_false hA]
              have HA := Lib.hid hA
              go_wp2_with fail
              go_ret2
              exact ⟨.slice none 0 0, [], false, rfl, HB0.out, .inr ⟨rfl, x, l, HEX.out, HX.out.1, fun h => HA.out (HX.out.2.1 h)⟩⟩
          · omega
      · by_cases h2 : at' + zs.length ≤ x + l.length
        · by_cases h3 : at' ≤ at' + (zs.length : Int)
          · have hd3 : decide (at' + (zs.length : Int) < at') = false := decide_eq_false (by omega)
            have htc : Touch at' zs.length x l.length := ⟨by omega, by omega⟩
            obtain ⟨p, hp⟩ : ∃ p : Nat, at' - at' = (p : Int) := ⟨(at' - at').toNat, by omega⟩
            obtain ⟨q, hq⟩ : ∃ q : Nat, at' + (zs.length : Int) - at' = (q : Int) := ⟨(at' + (zs.length : Int) - at').toNat, by omega⟩
            obtain ⟨p2, hp2⟩ : ∃ p : Nat, at' - x = (p : Int) := ⟨(at' - x).toNat, by omega⟩
            obtain ⟨q2, hq2⟩ : ∃ q : Nat, at' + (zs.length : Int) - x = (q : Int) := ⟨(at' + (zs.length : Int) - x).toNat, by omega⟩
            obtain ⟨o1, hs1', hr1⟩ := part_at HR.out HP.out p q (by omega) (by omega) (P := IntKind.i64.wrap 0) (Q := IntKind.i64.wrap (at' + (zs.length : Int) - at')) (wrap_nat (by omega) (by omega)) (wrap_nat (by omega) (by omega))
            obtain ⟨o2, hs2, hr2⟩ := part_at hrl hpl p2 q2 (by omega) (by omega) (P := IntKind.i64.wrap (at' - x)) (Q := IntKind.i64.wrap (at' + (zs.length : Int) - x)) (wrap_nat (by omega) (by omega)) (wrap_nat (by omega) (by omega))
            have hov : Alike at' zs x l ↔ (zs.take q).drop p = (l.take q2).drop p2 := by
              unfold Alike
              rw [over_is (p := p) (q := q) (by omega) (by omega), over_is (p := p2) (q := q2) (by omega) (by omega)]
            have HX := Lib.hid (And.intro htc hov)
            have heq := fun n => equal_any ((hr1.below hBW).below (below_drewN w1 n)) ((hr2.below hBW).below (below_drewN w1 n))
            clear hp hq hp2 hq2 hr1 hr2 hov htc hrw hBW
            generalize (zs.take q).drop p = xs at *
            generalize (l.take q2).drop p2 = ys at *
            go_wp2_with fail
            go_quiet ((go_at_call 16; exact Calls.quiet_of_same (heq _)))
            obtain ⟨W0, hW0⟩ : ∃ W0, w1.drewN nq = W0 := ⟨_, rfl⟩
            have hb0 := below_drewN w1 nq
            rw [hW0] at hb0 ⊢
            have HB0 := Lib.hid (HBW.out.trans (hb0.mono HBW.out.size))
            have HO0 := Lib.hid (own_below HO1.out hb0)
            have HRG := Lib.hid (ranges_below hrg1 hb0)
            clear heq hb0 hW0
            by_cases hA : xs = ys
            · subst hA
              rw [show decide (xs = xs) = true from decide_eq_true rfl]
              have HFN := Lib.hid (hF.out.touch hlk (HEX.out) HX.out.1 (HX.out.2.2 rfl))
              obtain ⟨ip, hip, hz0, hz1, hz2⟩ := info_parts info3
              have HCN := Lib.hid (fun i => cell_of_row _ W0.heap.size i _ 3 (0, 0) (heap_alloc_new W0 (.cells #[.int .i64 x] 3)))
              have hNN := HN.out
              go_wp2_with (
                at_builtin
                refine wpList_append_own _ rfl (.tmp 56) (.tmp 58) 28 rfl (w.heap.size + 1) 3 ip (.int .i64 0) 1 8 Try.underlying28 hip hz0 hz1 hz2 rfl (by decide) _ L.length (L.map (Value.int .i64)) rfl
                  (own_below HO0.out (below_alloc W0 _)) ⟨W0.heap.size, 0, none⟩ 1 1 [.int .i64 x] rfl rfl (cells_at HCN.out) (by intro u hu; simp at hu; subst hu; rfl) (by unfold maxLen; omega) (by omega) (by have := HRG.out.lt; simp; omega) ?_
                intro v' w2 hown' hgrow _)
              go_roundw
              case rel =>
                have hbl : Below w.heap.size (W0.alloc (.cells #[.int .i64 x] 3)) w2 := (below_own (own_below HO0.out (below_alloc W0 _)) (by have := HRG.out.lt; simp; omega) hgrow).mono (by omega)
                refine ⟨_, cnt1, L ++ [x], ?_, by simp; omega, HFN, Lib.hid (by simpa using hown'), Lib.hid ((HB0.out.trans ((below_alloc W0 _).mono HB0.out.size)).trans hbl)⟩
                exact (HRG.out.alloc (.cells #[.int .i64 x] 3)).kept hgrow (row_far (own_below HO0.out (below_alloc W0 (.cells #[.int .i64 x] 3))) hmlt) (row_far2 (own_below HO0.out (below_alloc W0 (.cells #[.int .i64 x] 3))))
              case measure =>
                have e1 := ((HRG.out.alloc (.cells #[.int .i64 x] 3)).kept hgrow (row_far (own_below HO0.out (below_alloc W0 (.cells #[.int .i64 x] 3))) hmlt) (row_far2 (own_below HO0.out (below_alloc W0 (.cells #[.int .i64 x] 3))))).left_eq
                rw [e1, hrg.left_eq]; omega
            · rw [show decide (xs = ys) = false from decide_eq_false hA]
              have HA := Lib.hid hA
              go_wp2_with fail
              go_ret2
              exact ⟨.slice none 0 0, [], false, rfl, HB0.out, .inr ⟨rfl, x, l, HEX.out, HX.out.1, fun h => HA.out (HX.out.2.1 h)⟩⟩
          · omega
        · by_cases h3 : at' ≤ x + (l.length : Int)
          · have hd3 : decide (x + (l.length : Int) < at') = false := decide_eq_false (by omega)
            have htc : Touch at' zs.length x l.length := ⟨by omega, by omega⟩
            obtain ⟨p, hp⟩ : ∃ p : Nat, at' - at' = (p : Int) := ⟨(at' - at').toNat, by omega⟩
            obtain ⟨q, hq⟩ : ∃ q : Nat, x + (l.length : Int) - at' = (q : Int) := ⟨(x + (l.length : Int) - at').toNat, by omega⟩
            obtain ⟨p2, hp2⟩ : ∃ p : Nat, at' - x = (p : Int) := ⟨(at' - x).toNat, by omega⟩
            obtain ⟨q2, hq2⟩ : ∃ q : Nat, x + (l.length : Int) - x = (q : Int) := ⟨(x + (l.length : Int) - x).toNat, by omega⟩
            obtain ⟨o1, hs1', hr1⟩ := part_at HR.out HP.out p q (by omega) (by omega) (P := IntKind.i64.wrap 0) (Q := IntKind.i64.wrap (x + (l.length : Int) - at')) (wrap_nat (by omega) (by omega)) (wrap_nat (by omega) (by omega))
            obtain ⟨o2, hs2, hr2⟩ := part_at hrl hpl p2 q2 (by omega) (by omega) (P := IntKind.i64.wrap (at' - x)) (Q := IntKind.i64.wrap (x + (l.length : Int) - x)) (wrap_nat (by omega) (by omega)) (wrap_nat (by omega) (by omega))
            have hov : Alike at' zs x l ↔ (zs.take q).drop p = (l.take q2).drop p2 := by
              unfold Alike
              rw [over_is (p := p) (q := q) (by omega) (by omega), over_is (p := p2) (q := q2) (by omega) (by omega)]
            have HX := Lib.hid (And.intro htc hov)
            have heq := fun n => equal_any ((hr1.below hBW).below (below_drewN w1 n)) ((hr2.below hBW).below (below_drewN w1 n))
            clear hp hq hp2 hq2 hr1 hr2 hov htc hrw hBW
            generalize (zs.take q).drop p = xs at *
            generalize (l.take q2).drop p2 = ys at *
            go_wp2_with fail
            go_quiet ((go_at_call 16; exact Calls.quiet_of_same (heq _)))
            obtain ⟨W0, hW0⟩ : ∃ W0, w1.drewN nq = W0 := ⟨_, rfl⟩
            have hb0 := below_drewN w1 nq
            rw [hW0] at hb0 ⊢
            have HB0 := Lib.hid (HBW.out.trans (hb0.mono HBW.out.size))
            have HO0 := Lib.hid (own_below HO1.out hb0)
            have HRG := Lib.hid (ranges_below hrg1 hb0)
            clear heq hb0 hW0
            by_cases hA : xs = ys
            · subst hA
              rw [show decide (xs = xs) = true from decide_eq_true rfl]
              have HFN := Lib.hid (hF.out.touch hlk (HEX.out) HX.out.1 (HX.out.2.2 rfl))
              obtain ⟨ip, hip, hz0, hz1, hz2⟩ := info_parts info3
              have HCN := Lib.hid (fun i => cell_of_row _ W0.heap.size i _ 3 (0, 0) (heap_alloc_new W0 (.cells #[.int .i64 x] 3)))
              have hNN := HN.out
              go_wp2_with (
                at_builtin
                refine wpList_append_own _ rfl (.tmp 56) (.tmp 58) 28 rfl (w.heap.size + 1) 3 ip (.int .i64 0) 1 8 Try.underlying28 hip hz0 hz1 hz2 rfl (by decide) _ L.length (L.map (Value.int .i64)) rfl
                  (own_below HO0.out (below_alloc W0 _)) ⟨W0.heap.size, 0, none⟩ 1 1 [.int .i64 x] rfl rfl (cells_at HCN.out) (by intro u hu; simp at hu; subst hu; rfl) (by unfold maxLen; omega) (by omega) (by have := HRG.out.lt; simp; omega) ?_
                intro v' w2 hown' hgrow _)
              go_roundw
              case rel =>
                have hbl : Below w.heap.size (W0.alloc (.cells #[.int .i64 x] 3)) w2 := (below_own (own_below HO0.out (below_alloc W0 _)) (by have := HRG.out.lt; simp; omega) hgrow).mono (by omega)
                refine ⟨_, cnt1, L ++ [x], ?_, by simp; omega, HFN, Lib.hid (by simpa using hown'), Lib.hid ((HB0.out.trans ((below_alloc W0 _).mono HB0.out.size)).trans hbl)⟩
                exact (HRG.out.alloc (.cells #[.int .i64 x] 3)).kept hgrow (row_far (own_below HO0.out (below_alloc W0 (.cells #[.int .i64 x] 3))) hmlt) (row_far2 (own_below HO0.out (below_alloc W0 (.cells #[.int .i64 x] 3))))
              case measure =>
                have e1 := ((HRG.out.alloc (.cells #[.int .i64 x] 3)).kept hgrow (row_far (own_below HO0.out (below_alloc W0 (.cells #[.int .i64 x] 3))) hmlt) (row_far2 (own_below HO0.out (below_alloc W0 (.cells #[.int .i64 x] 3))))).left_eq
                rw [e1, hrg.left_eq]; omega
            · rw [show decide (xs = ys) = false from decide_eq_false hA]
              have HA := Lib.hid hA
              go_wp2_with fail
              go_ret2
              exact ⟨.slice none 0 0, [], false, rfl, HB0.out, .inr ⟨rfl, x, l, HEX.out, HX.out.1, fun h => HA.out (HX.out.2.1 h)⟩⟩
          · have hd3 : decide (x + (l.length : Int) < at') = true := decide_eq_true (by omega)
            have HFN := Lib.hid (hF.out.pass hlk HEX.out (fun h : Touch at' zs.length x l.length => by obtain ⟨a1, a2⟩ := h; omega))
            have HRG := Lib.hid hrg1
            clear hrw hBW
            go_wp2_with fail
            go_roundw
            case rel => exact ⟨_, cnt1, L, HRG.out, by omega, HFN, HO1, HBW⟩
            case measure => rw [HRG.out.left_eq, hrg.left_eq]; omega
#print axioms near_none
#print axioms near_some
end Go.Proofs.Ytfgjlfcadpmkhaa
