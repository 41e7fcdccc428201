/- law 6: FrameWrites: the walk. -/
import Derived.Test.YtocfkkppalpamaaDoorGW5
import Derived.Test.YtocfkkppalpamaaDoorChecked
import Derived.Deep.QuietTactic
import Derived.BigQuiet
import Derived.Outline
import Derived.Test.YtocfkkppalpamaaDoorGW6
import Derived.Test.YtocfkkppalpamaaDoorGOf
import Derived.Test.YtocfkkppalpamaaDoorGRd9
import Derived.Test.YtocfkkppalpamaaDoorGLt
import Derived.Test.YtocfkkppalpamaaDoorFrame
import Derived.Deep.Slices
import Derived.Test.YtocfkkppalpamaaDoorGBa
import Derived.Test.YtocfkkppalpamaaDoorGRf
namespace Go.Proofs.YtocfkkppalpamaaDoor
open Go Go.RowKit

set_option maxRecDepth 20000 in
set_option maxHeartbeats 400000 in
theorem same_true {w : World} {v1 v2 : Value} {zs : List Int} (h1 : Rd w v1 zs) (h2 : Rd w v2 zs) :
    Calls Tryd.prog 16 #[v1, v2] w fun e w' => e = .returned (.bool true) ∧ Below w.heap.size w w' := by
  rcases h1.cases with ⟨rfl, a1, c1, rfl, hc1⟩ | ⟨b1, o1, c1, rfl, hp, hl1, hc1, _, hcell1⟩
  · rcases h2.cases with ⟨_, a2, c2, rfl, hc2⟩ | ⟨b2, o2, c2, rfl, hp, _⟩
    · clear h1 h2
      go_enter Tryd.func16, Tryd.ntmps16
      go_wp2
      refine wp_loop_rounds 1 ?_
      rw [rounds_succ]
      go_wp2
      go_ret
      exact ⟨rfl, Below.refl _ _⟩
    · simp at hp
  · rcases h2.cases with ⟨rfl, _⟩ | ⟨b2, o2, c2, rfl, _, hl2, hc2, _, hcell2⟩
    · simp at hp
    · clear h1 h2
      obtain ⟨n, hn⟩ : ∃ n, n = zs.length := ⟨_, rfl⟩
      rw [← hn] at hp hl1 hl2 hcell1 hcell2 ⊢
      have HN := Lib.hid hn
      clear hn
      have hne : ((n : Int) != (n : Int)) = false := by simp
      go_enter Tryd.func16, Tryd.ntmps16
      go_wp2
      go_loopw [5] (fun i wr => ∃ k : Nat, k ≤ n ∧ i = .int .i64 k ∧ Below w.heap.size w wr) (fun i _ => n - (intOf i).toNat)
      case atStart => exact ⟨0, Nat.zero_le _, rfl, Below.refl _ _⟩
      case round =>
        obtain ⟨k, hk, rfl, hb⟩ := hrel
        by_cases hlt : k < n
        · have g1 : wr.cell? ⟨b1, o1 + k, none⟩ = some (.int .u8 (zs.getD k 0)) := by rw [hb.cell (cell_lt (hcell1 k hlt))]; exact hcell1 k hlt
          have g2 : wr.cell? ⟨b2, o2 + k, none⟩ = some (.int .u8 (zs.getD k 0)) := by rw [hb.cell (cell_lt (hcell2 k hlt))]; exact hcell2 k hlt
          clear hcell1 hcell2
          have hi : (k : Int) < (n : Int) := by omega
          go_wp2
          go_quiet (fail)
          go_wp2
          go_roundw
          case rel => exact ⟨k + 1, by omega, by go_num, below_drewN hb nq⟩
          case measure => simp [intOf]; omega
        · clear hcell1 hcell2
          go_wp2
          go_ret
          exact ⟨rfl, hb⟩
#print axioms same_true
end Go.Proofs.YtocfkkppalpamaaDoor
namespace Go.Proofs.YtocfkkppalpamaaDoor
open Go Go.RowKit

def exF : Fv := ⟨2, 0, [(7, 7), (3, 5)], 0, [], 0⟩
theorem exF_right : rightB exF = true := by decide +kernel
theorem exF_bytes : wrF exF = [2, 7, 1, 0, 0, 2] := by decide +kernel
set_option maxRecDepth 20000 in
set_option maxHeartbeats 2000000 in
theorem gawake_any {w : World} (ht : Tab w) : Calls Tryd.prog 17 #[] w fun e w' => e = .returned (.bool true) ∧ Below w.heap.size w w' := by
  have hb1 := below_alloc w (.cells #[.int .i64 7, .int .i64 7, .int .i64 3, .int .i64 5] 56)
  have hrs : Rs (w.alloc (.cells #[.int .i64 7, .int .i64 7, .int .i64 3, .int .i64 5] 56)) (.slice (some ⟨w.heap.size, 0, none⟩) 2 2) [(7, 7), (3, 5)] := by
    refine ⟨_, 2, rfl, by decide, by decide, (fun h => by cases h), fun a ha j hj => ?_⟩
    cases ha
    have hh := heap_alloc_new w (.cells #[.int .i64 7, .int .i64 7, .int .i64 3, .int .i64 5] 56)
    have hc := fun i => cell_of_row _ w.heap.size i _ _ (0, 0) hh
    have : j = 0 ∨ j = 1 := by simp at hj; omega
    rcases this with rfl | rfl
    · exact ⟨(hc 0).trans rfl, (hc 1).trans rfl⟩
    · exact ⟨(hc 2).trans rfl, (hc 3).trans rfl⟩
  have hfl : Fl ((w.alloc (.cells #[.int .i64 7, .int .i64 7, .int .i64 3, .int .i64 5] 56)).alloc (.cells #[.int .i64 2, .int .i64 0, .slice (some ⟨w.heap.size, 0, none⟩) 2 2, .int .i64 0, .slice none 0 0, .int .i64 0] 29)) (.slice (some ⟨w.heap.size + 1, 0, none⟩) 1 1) [⟨exF, .slice (some ⟨w.heap.size, 0, none⟩) 2 2, .slice none 0 0⟩] := by
    refine ⟨⟨_, 1, rfl, by simp, by simp [maxLen], (fun h => by cases h), fun a ha j e hj i u hu => ?_⟩, fun e he => ?_⟩
    · cases ha
      have hj0 : j = 0 := by
        have := (List.getElem?_eq_some_iff.1 hj).1
        simp at this; exact this
      subst hj0
      simp at hj
      subst hj
      have hh := heap_alloc_new (w.alloc (.cells #[.int .i64 7, .int .i64 7, .int .i64 3, .int .i64 5] 56)) (.cells #[.int .i64 2, .int .i64 0, .slice (some ⟨w.heap.size, 0, none⟩) 2 2, .int .i64 0, .slice none 0 0, .int .i64 0] 29)
      rw [World.size_alloc] at hh
      have hc := cell_of_row _ (w.heap.size + 1) (0 + (0 * 6 + i)) _ _ (0, 0) hh
      rw [Addr.add_lit, hc]
      simp only [Nat.zero_mul, Nat.zero_add]
      rw [← hu]
      simp [feC, exF]
    · simp at he
      subst he
      exact ⟨hrs.below (below_alloc _ _), Rd.nil _⟩
  have hW := gwrite_any hfl (by simp) (ht.below (hb1.trans ((below_alloc _ _).mono hb1.size))) (by simp)
  have HB := Lib.hid (hb1.trans ((below_alloc (w.alloc (.cells #[.int .i64 7, .int .i64 7, .int .i64 3, .int .i64 5] 56)) (.cells #[.int .i64 2, .int .i64 0, .slice (some ⟨w.heap.size, 0, none⟩) 2 2, .int .i64 0, .slice none 0 0, .int .i64 0] 29)).mono hb1.size))
  clear hb1 hrs hfl ht
  go_enter Tryd.func17, Tryd.ntmps17
  go_wp2_with fail
  refine hW.mono ?_
  rintro e w2 ⟨u, zs, n, rfl, ⟨hu, _⟩, hb2, hc⟩
  have hm : mayP [⟨exF, .slice (some ⟨w.heap.size, 0, none⟩) 2 2, .slice none 0 0⟩] := ⟨by simp, ⟨(right_iff _).1 exF_right, fun _ g q h => (by cases h), trivial⟩⟩
  have hz : zs = [2, 7, 1, 0, 0, 2] ∧ n = 0 := by
    have e : wrAll (List.map Fe.f [⟨exF, .slice (some ⟨w.heap.size, 0, none⟩) 2 2, .slice none 0 0⟩]) = [2, 7, 1, 0, 0, 2] := by
      simp only [List.map_cons, List.map_nil, wrAll, exF_bytes, List.append_nil]
    rw [e] at hc
    rcases hc with ⟨h, _⟩ | ⟨_, h, _⟩ | ⟨_, _, h, h2⟩
    · exact absurd hm h
    · simp at h
    · exact ⟨h, h2⟩
  obtain ⟨rfl, rfl⟩ := hz
  have HB2 := Lib.hid (HB.out.trans (hb2.mono HB.out.size))
  have hsm := fun (W : World) (h : Rd W u [2, 7, 1, 0, 0, 2]) (x : Value) (h2 : Rd W x [2, 7, 1, 0, 0, 2]) => same_true h h2
  have hl : Rd (w2.alloc (.cells (by8 [2, 7, 1, 0, 0, 2]).toArray 5)) (.slice (some ⟨w2.heap.size, 0, none⟩) 6 6) [2, 7, 1, 0, 0, 2] := Rd.lit w2 [2, 7, 1, 0, 0, 2] (by decide) (byt_of (by decide))
  have hs := hsm _ (hu.rd.alloc _) _ hl
  have HBA := Lib.hid (below_alloc w2 (.cells (by8 [2, 7, 1, 0, 0, 2]).toArray 5))
  obtain ⟨a, c, rfl⟩ := hu.rd.shape
  simp only [List.length_cons, List.length_nil, Nat.zero_add, Nat.reduceAdd] at *
  clear hW hsm hl hc hm hb2 hu
  go_wp2_with (go_at_call 16; refine hs.mono ?_; rintro e w3 ⟨rfl, hb3⟩)
  go_ret
  exact ⟨rfl, HB2.out.trans ((HBA.out.trans (hb3.mono HBA.out.size)).mono HB2.out.size)⟩
#print axioms gawake_any
end Go.Proofs.YtocfkkppalpamaaDoor
namespace Go.Proofs.YtocfkkppalpamaaDoor
open Go Go.RowKit

/-- What all hands back. -/
def AllPost (w : World) (l : List Fe) (e : Ending) (w' : World) : Prop := ∃ u L, e = .returned u ∧ Fo w.heap.size w' u L ∧ L.map Fe.f = l.map Fe.f ∧ Below w.heap.size w w'
theorem own_lt {w : World} {lo : Nat} {v : Value} {n g : Nat} {T : TypeId} {sz : Nat} {xs : List Value} (h : w.ownsRow lo T sz v n xs) (hg : v.ownBlock = some g) : g < w.heap.size ∧ lo ≤ g := by
  rcases h.2 with ⟨rfl, _⟩ | ⟨g2, cap, cur, rfl, h1, hh, _⟩
  · cases hg
  · cases hg; exact ⟨(Array.getElem?_eq_some_iff.1 hh).1, h1⟩
/-- One more is taken over. -/
theorem all_step {lo : Nat} {w1 w2 : World} {u : Value} {L : List Fe} (h : Fo lo w1 u L) (hb : Below w1.heap.size w1 w2) (hl : L.length ≤ 2000) (hlo : lo ≤ w1.heap.size) (e : Fe) (hs : RsA w1.heap.size w2 e.sv e.f.sp) (hd : Ra w1.heap.size w2 e.dv e.f.d) (hp : Plain e.dv) :
    ∃ v' w', (Builtin.append_ #[38, 38] 38 #[u, .slice (some ⟨w2.heap.size, 0, none⟩) 1 1]).run Tryd.prog (w2.alloc (.cells #[.int .i64 e.f.k, .int .i64 e.f.c, e.sv, .int .i64 e.f.a, e.dv, .int .i64 e.f.t] 29)) = .ok v' w' ∧ Fo lo w' v' (L ++ [e]) ∧ Below lo w1 w' := by
  have hb2 := below_alloc w2 (.cells #[.int .i64 e.f.k, .int .i64 e.f.c, e.sv, .int .i64 e.f.a, e.dv, .int .i64 e.f.t] 29)
  have hb3 := hb.trans (hb2.mono hb.size)
  have hF : Fo lo (w2.alloc (.cells #[.int .i64 e.f.k, .int .i64 e.f.c, e.sv, .int .i64 e.f.a, e.dv, .int .i64 e.f.t] 29)) u L := h.keep fun k hk _ => hb3.block k hk
  have hsz := hb.size
  obtain ⟨v', w', h1, h2, h3⟩ := hF.app hl (by simp; omega) e (hs.below hb2) (hd.below hb2) hp hlo (fun g hg => (own_lt h.own hg).1) w2.heap.size (feC_new w2 e) 38
  exact ⟨v', w', h1, h2, (hb3.mono hlo).trans (below_own hF.own (by simp; omega) h3)⟩
set_option maxRecDepth 20000 in
set_option maxHeartbeats 2000000 in
theorem gall_any {w : World} {v : Value} {l : List Fe} (h : Fl w v l) (hl : LightP l) : Calls Tryd.prog 14 #[v] w (AllPost w l) := by
  have HF := Lib.hid h
  have HLT := Lib.hid hl
  have h30 : l.length ≤ 30 := hl.1
  obtain ⟨ao, cap, rfl⟩ := h.shape
  clear h hl
  go_enter Tryd.func14, Tryd.ntmps14
  go_wp2_with fail
  go_loopw [3, 4] (fun u i wr => ∃ (k : Nat) (L : List Fe), i = .int .i64 k ∧ k ≤ l.length ∧ Hid (Fo w.heap.size wr u L ∧ L.map Fe.f = (l.take k).map Fe.f ∧ Below w.heap.size w wr)) (fun _ i _ => l.length - (intOf i).toNat)
  case atStart => exact ⟨0, [], rfl, by omega, Lib.hid ⟨Fo.nil _ _, by simp, Below.refl _ _⟩⟩
  case round =>
    rename_i wr
    obtain ⟨k, L, rfl, hk, HR⟩ := hrel
    have hk' : (k : Int) ≤ (l.length : Int) := by omega
    obtain ⟨ua, uc, rfl⟩ := HR.out.1.shape
    have HLL : Hid (L.length = k) := Lib.hid (by
      have := congrArg List.length HR.out.2.1
      simp at this; omega)
    by_cases hlt : k < l.length
    · have hlt' : (k : Int) < (l.length : Int) := by omega
      obtain ⟨b, off, cap', e0, hb, hat⟩ := HF.out.at (by omega)
      simp only [Value.slice.injEq] at e0
      obtain ⟨rfl, _, rfl⟩ := e0
      obtain ⟨e, he⟩ : ∃ e, l[k]? = some e := ⟨_, List.getElem?_eq_getElem hlt⟩
      have hfr := HF.out.rd e (List.mem_of_getElem? he)
      have hlp := HLT.out.2 e (List.mem_of_getElem? he)
      have hsz := HR.out.2.2.size
      obtain ⟨x0, x1, x2, x3, x4, x5⟩ := (hat k e he).below HR.out.2.2 hb
      have HT : Hid (l.take (k + 1) = l.take k ++ [e]) := Lib.hid (by
        obtain ⟨h1, h2⟩ := List.getElem?_eq_some_iff.1 he
        rw [List.take_succ_eq_append_getElem h1, h2])
      obtain ⟨⟨fk, fc, fsp, fa, fd, ft⟩, sv, dv⟩ := e
      simp only at x0 x1 x2 x3 x4 x5 hlp
      have hof := gof_any (w := wr) (k := fk) (c := fc) (a := fa) (t := ft) (sp := fsp) (d := fd) (hfr.1.below HR.out.2.2) (hfr.2.below HR.out.2.2) hlp.1 hlp.2
      have hs1 : Rs w sv fsp := hfr.1
      have hd1 : Rd w dv fd := hfr.2
      obtain ⟨sa, sn, rfl⟩ := rs_shape hs1
      obtain ⟨da, dn, rfl⟩ := hd1.shape
      unfold fAgg at hof
      clear hat hfr he hlp hs1 hd1
      have hk0 : k = 0 ∨ 0 < k := by omega
      have HN : ∀ (su du : Value), Hid ((L ++ [(⟨⟨fk, fc, fsp, fa, fd, ft⟩, su, du⟩ : Fe)]).map Fe.f = (l.take (k + 1)).map Fe.f) := fun su du => Lib.hid (by rw [HT.out, List.map_append, List.map_append, HR.out.2.1]; rfl)
      rcases hk0 with rfl | hk0
      · simp only [Nat.zero_mul, Nat.add_zero] at x0 x1 x2 x3 x4 x5
        go_wp2_with (first
          | (go_at_call 11; refine hof.mono ?_; rintro e w2 ⟨su, du, rfl, hs2, hd2, hp2, hb2⟩; obtain ⟨v6, w6, hr6, hg6, hb6⟩ := all_step HR.out.1 hb2 (by have := HLL.out; omega) hsz ⟨⟨fk, fc, fsp, fa, fd, ft⟩, su, du⟩ hs2 hd2 hp2; have HG6 := Lib.hid hg6; have HB6 := Lib.hid hb6; clear hg6 hb6; obtain ⟨a6, c6, rfl⟩ := HG6.out.shape; obtain ⟨sa2, sn2, rfl⟩ := rs_shape hs2.rd; obtain ⟨da2, dn2, rfl⟩ := hd2.rd.shape; clear hs2 hd2 hp2 hb2; unfold fAgg; (try simp only at hr6))
          | (at_builtin; refine wpList_run_ok (.tmp 11) (.tmp 17) _ rfl rfl rfl rfl hr6 ?_))
        have HG7 := HG6.out
        simp only [List.length_append, List.length_cons, List.length_nil, Nat.zero_add] at HG7
        go_roundw
        case rel => exact ⟨1, _, by go_num, by omega, Lib.hid ⟨HG7, (HN _ _).out, HR.out.2.2.trans HB6.out⟩⟩
        case measure => simp [intOf]; omega
      · go_wp2_with (first
          | (go_at_call 11; refine hof.mono ?_; rintro e w2 ⟨su, du, rfl, hs2, hd2, hp2, hb2⟩; obtain ⟨v6, w6, hr6, hg6, hb6⟩ := all_step HR.out.1 hb2 (by have := HLL.out; omega) hsz ⟨⟨fk, fc, fsp, fa, fd, ft⟩, su, du⟩ hs2 hd2 hp2; have HG6 := Lib.hid hg6; have HB6 := Lib.hid hb6; clear hg6 hb6; obtain ⟨a6, c6, rfl⟩ := HG6.out.shape; obtain ⟨sa2, sn2, rfl⟩ := rs_shape hs2.rd; obtain ⟨da2, dn2, rfl⟩ := hd2.rd.shape; clear hs2 hd2 hp2 hb2; unfold fAgg; (try simp only at hr6))
          | (at_builtin; refine wpList_run_ok (.tmp 11) (.tmp 17) _ rfl rfl rfl rfl hr6 ?_))
        have HG7 := HG6.out
        simp only [List.length_append, List.length_cons, List.length_nil, Nat.zero_add] at HG7
        go_roundw
        case rel => exact ⟨k + 1, _, by go_num, by omega, Lib.hid ⟨HG7, (HN _ _).out, HR.out.2.2.trans HB6.out⟩⟩
        case measure => simp [intOf]; omega
    · obtain rfl : k = l.length := by omega
      go_wp2_with fail
      go_ret
      exact ⟨_, L, rfl, HR.out.1, by rw [HR.out.2.1, List.take_length], HR.out.2.2⟩
#print axioms gall_any
end Go.Proofs.YtocfkkppalpamaaDoor
namespace Go.Proofs.YtocfkkppalpamaaDoor
open Go.ChangeShapes Go.WideShapes Go.ChangeAt Go.RowKit

theorem sct3 : Tryd.prog.cellsOf 3 = 1 := by kernel_rfl
theorem sctb : Tryd.prog.cellsOf 26 = 1 := by kernel_rfl
theorem scts : Tryd.prog.cellsOf 31 = 1 := by kernel_rfl
theorem sctS : Tryd.prog.cellsOf 55 = 2 := by kernel_rfl
theorem sctF : Tryd.prog.cellsOf 33 = 6 := by kernel_rfl
theorem two_of {α : Type} {l : List α} (h : l.length = 2) : ∃ a b, l = [a, b] := by
  match l, h with
  | [a, b], _ => exact ⟨a, b, rfl⟩
theorem six_of {α : Type} {l : List α} (h : l.length = 6) : ∃ a b c d e f, l = [a, b, c, d, e, f] := by
  match l, h with
  | [a, b, c, d, e, f], _ => exact ⟨a, b, c, d, e, f, rfl⟩
theorem list_of {α : Type} {p : Nat → α → Prop} (n : Nat) (each : ∀ i, i < n → ∃ s, p i s) : ∃ l : List α, l.length = n ∧ ∀ i s, l[i]? = some s → p i s := by
  induction n with
  | zero => exact ⟨[], rfl, fun i s h => by simp at h⟩
  | succ n ih =>
    obtain ⟨l, h1, h2⟩ := ih (fun i hi => each i (by omega))
    obtain ⟨s, hs⟩ := each n (by omega)
    refine ⟨l ++ [s], by simp [h1], fun i s' h => ?_⟩
    by_cases hi : i < n
    · rw [List.getElem?_append_left (by omega)] at h
      exact h2 i s' h
    · have hlt := (List.getElem?_eq_some_iff.1 h).1
      simp only [List.length_append, List.length_cons, List.length_nil] at hlt
      obtain rfl : i = n := by omega
      rw [List.getElem?_append_right (by omega), h1, Nat.sub_self] at h
      simp at h
      subst h
      exact hs
/-- A slice of bytes among what came in. -/
theorem rdb_in {W : World} {H : Type} {enc : TypeId × Value → H} {base : Nat} {sp : Nat → Bool} {held : Bool} {v : Value} {fuel : Nat} {x : DataW H × List MemPlace} (h : DataW.trod enc Tryd.prog W base sp held fuel 26 [v] = some x) :
    ∃ zs, Rd W v zs := by
  rcases open_ints Tryd.underlying26 Tryd.underlying5 (by kernel_rfl) h with ⟨hcs, _⟩ | ⟨y, l, c, zs, hcs, _, hl, hm, hz, _, hcell, hwz⟩
  · simp at hcs
    exact ⟨[], by rw [hcs]; exact Rd.nil W⟩
  · simp at hcs
    have hz' : l ≤ zs.length := by
      simp only [hz]
      split <;> omega
    have hlen : (zs.take l).length = l := by simp; omega
    refine ⟨zs.take l, ⟨some y, c, by rw [hlen]; exact hcs, by rw [hlen]; exact hl, hm, (fun h => by cases h), ?_, ?_⟩⟩
    · intro z hz2
      have := hwz z (List.mem_of_mem_take hz2)
      simp [Lit.wf, IntKind.min, IntKind.max, IntKind.bits, IntKind.signed] at this
      omega
    · intro a ha j hj
      cases ha
      rw [hlen] at hj
      rw [hcell j (by omega)]
      simp [List.getD, hj]
theorem span_in {W : World} {H : Type} {enc : TypeId × Value → H} {base : Nat} {sp : Nat → Bool} {held : Bool} {a : Addr} {n : Nat} {cs : List Value} {y : DataW H × List MemPlace}
    (h1 : W.cells? base a 2 = some cs) (h2 : DataW.trod enc Tryd.prog W base sp held n 55 cs = some y) : ∃ s : Sp, W.cell? (a.add 0) = some (.int .i64 s.1) ∧ W.cell? (a.add 1) = some (.int .i64 s.2) := by
  obtain ⟨_, hlen, hcell⟩ := World.cells?_some h1
  obtain ⟨xs, k, hk, hxy, _, hxl, hf⟩ := DataW.trod_struct Tryd.underlying55 h2
  obtain ⟨v0, v1, rfl⟩ := two_of hlen
  obtain ⟨y0, y1, rfl⟩ := two_of (l := xs) hxl
  have g0 : DataW.trod enc Tryd.prog W base sp held k 3 [v0] = some y0 := by have := hf 0 _ rfl; simpa [sct3] using this
  have g1 : DataW.trod enc Tryd.prog W base sp held k 3 [v1] = some y1 := by have := hf 1 _ rfl; simpa [sct3] using this
  obtain ⟨n0, q0, _, w0⟩ := DataW.trod_int Tryd.underlying3 g0
  obtain ⟨n1, q1, _, w1⟩ := DataW.trod_int Tryd.underlying3 g1
  simp only [List.cons.injEq, and_true] at q0 q1
  subst q0; subst q1
  exact ⟨(n0, n1), hcell 0 (by omega), hcell 1 (by omega)⟩
theorem spans_in {W : World} {H : Type} {enc : TypeId × Value → H} {base : Nat} {sp : Nat → Bool} {held : Bool} {v : Value} {fuel : Nat} {x : DataW H × List MemPlace} (h : DataW.trod enc Tryd.prog W base sp held fuel 31 [v] = some x) :
    ∃ S, Rs W v S := by
  rcases Go.Deep.open_slice Tryd.underlying31 h with ⟨hcs, _⟩ | ⟨ad, l, c, m, n, D, Pl, hcs, hb, hl, hm, hmm, _, hx⟩
  · simp at hcs
    exact ⟨[], by rw [hcs]; exact Rs.nil W⟩
  · simp at hcs
    have hlm : l ≤ m := by rw [hmm]; split <;> omega
    have each : ∀ i, i < l → ∃ s : Sp, W.cell? (ad.add (i * 2)) = some (.int .i64 s.1) ∧ W.cell? (ad.add (i * 2 + 1)) = some (.int .i64 s.2) := fun i hi => by
      obtain ⟨cs', h1, h2⟩ := hx i (by omega)
      rw [sctS] at h1
      obtain ⟨s, s1, s2⟩ := span_in h1 h2
      rw [Addr.add_add] at s1 s2
      exact ⟨s, s1, s2⟩
    obtain ⟨S, h1, h2⟩ := list_of l each
    subst h1
    refine ⟨S, some ad, c, hcs, hl, hm, (fun h => by cases h), fun a ha j hj => ?_⟩
    cases ha
    have := h2 j _ (List.getElem?_eq_getElem hj)
    simpa [List.getD, List.getElem?_eq_getElem hj] using this
set_option maxRecDepth 20000 in
theorem frame_in {W : World} {H : Type} {enc : TypeId × Value → H} {base : Nat} {sp : Nat → Bool} {held : Bool} {a : Addr} {n : Nat} {cs : List Value} {y : DataW H × List MemPlace}
    (h1 : W.cells? base a 6 = some cs) (h2 : DataW.trod enc Tryd.prog W base sp held n 33 cs = some y) : ∃ e : Fe, (∀ i u, (feC e)[i]? = some u → W.cell? (a.add i) = some u) ∧ Fr2 W e := by
  obtain ⟨_, hlen, hcell⟩ := World.cells?_some h1
  obtain ⟨xs, k, hk, hxy, _, hxl, hf⟩ := DataW.trod_struct Tryd.underlying33 h2
  obtain ⟨v0, v1, v2, v3, v4, v5, rfl⟩ := six_of hlen
  obtain ⟨y0, y1, y2, y3, y4, y5, rfl⟩ := six_of (l := xs) hxl
  have g0 : DataW.trod enc Tryd.prog W base sp held k 3 [v0] = some y0 := by have := hf 0 _ rfl; simpa [sct3] using this
  have g1 : DataW.trod enc Tryd.prog W base sp held k 3 [v1] = some y1 := by have := hf 1 _ rfl; simpa [sct3] using this
  have g2 : DataW.trod enc Tryd.prog W base sp held k 31 [v2] = some y2 := by have := hf 2 _ rfl; simpa [scts] using this
  have g3 : DataW.trod enc Tryd.prog W base sp held k 3 [v3] = some y3 := by have := hf 3 _ rfl; simpa [sct3] using this
  have g4 : DataW.trod enc Tryd.prog W base sp held k 26 [v4] = some y4 := by have := hf 4 _ rfl; simpa [sctb] using this
  have g5 : DataW.trod enc Tryd.prog W base sp held k 3 [v5] = some y5 := by have := hf 5 _ rfl; simpa [sct3] using this
  obtain ⟨n0, q0, _, _⟩ := DataW.trod_int Tryd.underlying3 g0
  obtain ⟨n1, q1, _, _⟩ := DataW.trod_int Tryd.underlying3 g1
  obtain ⟨n3, q3, _, _⟩ := DataW.trod_int Tryd.underlying3 g3
  obtain ⟨n5, q5, _, _⟩ := DataW.trod_int Tryd.underlying3 g5
  obtain ⟨S, r2⟩ := spans_in g2
  obtain ⟨zs, r4⟩ := rdb_in g4
  simp only [List.cons.injEq, and_true] at q0 q1 q3 q5
  subst q0; subst q1; subst q3; subst q5
  refine ⟨⟨⟨n0, n1, S, n3, zs, n5⟩, v2, v4⟩, fun i u hu => ?_, r2, r4⟩
  have hi := (List.getElem?_eq_some_iff.1 hu).1
  simp only [feC, List.length_cons, List.length_nil] at hi
  have h0 := hcell i (by omega)
  rw [h0]
  exact hu
theorem frames_in {W : World} {H : Type} {enc : TypeId × Value → H} {base : Nat} {sp : Nat → Bool} {held : Bool} {v : Value} {d : DataW H} {p : List MemPlace} {r : Reach} {b0 : Nat} (hv : Value.okWide Tryd.prog W r b0 22 v) (h : DataW.Trod enc Tryd.prog W base sp held 22 v d p) :
    ∃ l, Fl W v l := by
  obtain ⟨a, len, cap, rfl⟩ := okWide_slice Tryd.underlying22 hv
  obtain ⟨fuel, hf⟩ := h
  rcases Go.Deep.open_slice Tryd.underlying22 hf with ⟨hcs, _⟩ | ⟨ad, l, c, m, n, D, Pl, hcs, hb, hl, hm, hmm, _, hx⟩
  · simp [Value.cells] at hcs
    obtain ⟨rfl, rfl, rfl⟩ := hcs
    exact ⟨[], ⟨none, 0, rfl, Nat.le_refl _, by simp [maxLen], fun _ => rfl, fun a h => by cases h⟩, fun e he => by cases he⟩
  · simp [Value.cells] at hcs
    obtain ⟨rfl, rfl, rfl⟩ := hcs
    have hlm : len ≤ m := by rw [hmm]; split <;> omega
    have each : ∀ i, i < len → ∃ e : Fe, (∀ j u, (feC e)[j]? = some u → W.cell? (ad.add (i * 6 + j)) = some u) ∧ Fr2 W e := fun i hi => by
      obtain ⟨cs', h1, h2⟩ := hx i (by omega)
      rw [sctF] at h1
      obtain ⟨e, h3, h4⟩ := frame_in h1 h2
      refine ⟨e, fun j u hu => ?_, h4⟩
      have := h3 j u hu
      rwa [Addr.add_add] at this
    obtain ⟨l, h1, h2⟩ := list_of len each
    subst h1
    refine ⟨l, ⟨some ad, cap, rfl, hl, hm, (fun h => by cases h), fun a' ha j e hj i u hu => ?_⟩, fun e he => ?_⟩
    · cases ha
      exact (h2 j e hj).1 i u hu
    · obtain ⟨i, hi⟩ := List.getElem?_of_mem he
      exact (h2 i e hi).2
#print axioms frames_in
end Go.Proofs.YtocfkkppalpamaaDoor
namespace Go.Proofs.YtocfkkppalpamaaDoor
open Go Go.RowKit

/-- What the document's Write tells. -/
def RWPost (w : World) (l : List Fe) (e : Ending) (w' : World) : Prop :=
  ∃ u zs n, e = .returned (.tuple #[u, .int .i64 n]) ∧ Rd w' u zs ∧ Below w.heap.size w w' ∧
    ((¬ mayP l ∧ zs = [] ∧ n = 1) ∨ (mayP l ∧ 1200 < (wrAll (l.map Fe.f)).length ∧ zs = [] ∧ n = 4) ∨ (mayP l ∧ (wrAll (l.map Fe.f)).length ≤ 1200 ∧ zs = wrAll (l.map Fe.f) ∧ n = 0))
theorem rwpost_no {w w' : World} {l : List Fe} (hb : Below w.heap.size w w') (h : ¬ mayP l) : RWPost w l (.returned (.tuple #[.slice none 0 0, .int .i64 1])) w' :=
  ⟨_, [], 1, rfl, Rd.nil _, hb, .inl ⟨h, rfl, rfl⟩⟩
set_option maxRecDepth 20000 in
set_option maxHeartbeats 2000000 in
theorem grefwrite_any {w : World} {v : Value} {l : List Fe} (h : Fl w v l) (hl : l.length ≤ 30) : Calls Tryd.prog 15 #[v] w (RWPost w l) := by
  have HF := Lib.hid h
  have hl' : (l.length : Int) ≤ 30 := by omega
  obtain ⟨ao, cap, rfl⟩ := h.shape
  clear h
  by_cases hz : l.length = 0
  · have HN : Hid (¬ mayP l) := Lib.hid fun h => h.1 (List.eq_nil_of_length_eq_zero hz)
    have hzi : ((l.length : Int) == 0) = true := by simp [hz]
    go_enter Tryd.func15, Tryd.ntmps15
    go_wp2_with fail
    go_ret2
    exact rwpost_no (Below.refl _ _) HN.out
  have hz2 : ((l.length : Int) == 0) = false := beq_eq_false_iff_ne.2 (by omega)
  go_enter Tryd.func15, Tryd.ntmps15
  go_wp2_with fail
  go_loopw [4] (fun i wr => ∃ k : Nat, i = .int .i64 k ∧ k ≤ l.length ∧ Hid (∀ j, j < k → stAt l j) ∧ Below w.heap.size w wr) (fun i _ => l.length - (intOf i).toNat)
  case atStart => exact ⟨0, rfl, by omega, Lib.hid (fun j hj => by omega), Below.refl _ _⟩
  case round =>
    rename_i wr
    obtain ⟨k, rfl, hk, hok, hbel⟩ := hrel
    have hk' : (k : Int) ≤ (l.length : Int) := by omega
    have HB := Lib.hid hbel
    by_cases hlt : k < l.length
    · have hlt' : (k : Int) < (l.length : Int) := by omega
      obtain ⟨b, off, cap', e0, hb, hat⟩ := HF.out.at (by omega)
      simp only [Value.slice.injEq] at e0
      obtain ⟨rfl, _, rfl⟩ := e0
      obtain ⟨e, he⟩ : ∃ e, l[k]? = some e := ⟨_, List.getElem?_eq_getElem hlt⟩
      have hfr := (HF.out.rd e (List.mem_of_getElem? he)).below hbel
      have hea := (hat k e he).below hbel hb
      have HNO : Hid (¬ stAt l k → ¬ mayP l) := Lib.hid fun h hm => h ((stand_iff l).1 hm.2 k hlt)
      have HYS : Hid (stAt l k → ∀ j, j < k + 1 → stAt l j) := Lib.hid fun h j hj => by
        by_cases e : j = k
        · rw [e]; exact h
        · exact hok.out j (by omega)
      have HE := Lib.hid he
      have HAT := Lib.hid hat
      obtain ⟨⟨fk, fc, fsp, fa, fd, ft⟩, sv, dv⟩ := e
      have g1 : Rs wr sv fsp := hfr.1
      have g2 : Rd wr dv fd := hfr.2
      have hR := grefright_any (k := fk) (c := fc) (a := fa) (t := ft) g1 g2
      have HEA := Lib.hid hea
      obtain ⟨x0, x1, x2, x3, x4, x5⟩ := hea
      obtain ⟨sa, sn, rfl⟩ := rs_shape g1
      obtain ⟨da, dn, rfl⟩ := g2.shape
      simp only at x0 x1 x2 x3 x4 x5
      unfold fAgg at hR
      have hbb : b < wr.heap.size := Nat.lt_of_lt_of_le hb hbel.size
      clear hat hfr g1 g2 he hok hbel
      cases hrb : rightB ⟨fk, fc, fsp, fa, fd, ft⟩ with
      | false =>
        rw [hrb] at hR
        have HNM := Lib.hid (HNO.out fun h => by have := (h _ HE.out).1; rw [hrb] at this; cases this)
        clear hrb
        have hk0 : k = 0 ∨ 0 < k := by omega
        rcases hk0 with rfl | hk0
        · simp only [Nat.zero_mul, Nat.add_zero] at x0 x1 x2 x3 x4 x5
          go_wp2_with (go_at_call 12; refine hR.mono ?_; rintro e w2 ⟨rfl, hb2⟩)
          go_ret2
          exact rwpost_no (HB.out.trans (hb2.mono HB.out.size)) HNM.out
        · go_wp2_with (go_at_call 12; refine hR.mono ?_; rintro e w2 ⟨rfl, hb2⟩)
          go_ret2
          exact rwpost_no (HB.out.trans (hb2.mono HB.out.size)) HNM.out
      | true =>
        rw [hrb] at hR
        have HRB := Lib.hid hrb
        clear hrb
        cases k with
        | zero =>
          simp only [Nat.zero_mul, Nat.add_zero] at x0 x1 x2 x3 x4 x5
          have HST := Lib.hid (HYS.out fun e2 he2 => by rw [HE.out] at he2; cases he2; exact ⟨HRB.out, fun p hp => by omega⟩)
          go_wp2_with (go_at_call 12; refine hR.mono ?_; rintro e w2 ⟨rfl, hb2⟩)
          go_roundw
          case rel => exact ⟨1, by go_num, by omega, Lib.hid HST.out, HB.out.trans (hb2.mono HB.out.size)⟩
          case measure => simp [intOf]; omega
        | succ j =>
          obtain ⟨p, hp⟩ : ∃ p, l[j]? = some p := ⟨_, List.getElem?_eq_getElem (by omega)⟩
          have hpa := (HAT.out j p hp).below HB.out hb
          have HPA := Lib.hid hpa.c0
          have HP := Lib.hid hp
          have HKK : Hid (stAt l (j + 1) ↔ ¬ (fk = 0 ∧ p.f.k = 0)) := Lib.hid ⟨fun h => (h _ HE.out).2 p (by omega) (by simpa using HP.out), fun h e2 he2 => by
            rw [HE.out] at he2; cases he2
            exact ⟨HRB.out, fun q _ hq => by simp at hq; rw [HP.out] at hq; cases hq; exact h⟩⟩
          generalize p.f.k = pk at *
          have e1 : IntKind.i64.wrap (j : Int) = (j : Int) := IntWalk.i64_in _ (by omega)
          have z5' : (0 : Int) < (j : Int) + 1 := by omega
          have hjl : (j : Int) < (l.length : Int) := by omega
          clear hp hpa
          by_cases q1 : fk = 0
          · by_cases q2 : pk = 0
            · have HNM := Lib.hid (HNO.out fun h => HKK.out.1 h ⟨q1, q2⟩)
              subst q1; subst q2
              go_wp2_with (go_at_call 12; refine hR.mono ?_; rintro e w2 ⟨rfl, hb2⟩; have y0 := (HEA.out.below hb2 hbb).c0; have y1 := keepT hb2 hbb HPA.out)
              go_ret2
              exact rwpost_no (HB.out.trans (hb2.mono HB.out.size)) HNM.out
            · have HST := Lib.hid (HYS.out (HKK.out.2 fun h => q2 h.2))
              subst q1
              go_wp2_with (go_at_call 12; refine hR.mono ?_; rintro e w2 ⟨rfl, hb2⟩; have y0 := (HEA.out.below hb2 hbb).c0; have y1 := keepT hb2 hbb HPA.out)
              go_roundw
              case rel => exact ⟨j + 1 + 1, by go_num, by omega, Lib.hid HST.out, HB.out.trans (hb2.mono HB.out.size)⟩
              case measure => simp [intOf]; omega
          · have HST := Lib.hid (HYS.out (HKK.out.2 fun h => q1 h.1))
            go_wp2_with (go_at_call 12; refine hR.mono ?_; rintro e w2 ⟨rfl, hb2⟩; have y0 := (HEA.out.below hb2 hbb).c0; have y1 := keepT hb2 hbb HPA.out)
            go_roundw
            case rel => exact ⟨j + 1 + 1, by go_num, by omega, Lib.hid HST.out, HB.out.trans (hb2.mono HB.out.size)⟩
            case measure => simp [intOf]; omega
    · obtain rfl : k = l.length := by omega
      have HM : Hid (mayP l) := Lib.hid ⟨fun e => by rw [e] at hz; exact hz rfl, (stand_iff l).2 hok.out⟩
      have HB0 := HB
      clear hbel hok HB
      go_wp2_with fail
      go_loopw [5, 6] (fun u i wr => ∃ (k : Nat) (P : List Int), i = .int .i64 k ∧ k ≤ l.length ∧ wr.ownsRow w.heap.size 5 1 u P.length (by8 P) ∧ Hid (P ++ wrAll ((l.drop k).map Fe.f) = wrAll (l.map Fe.f)) ∧ P.length ≤ k * 1300 ∧ Hid (Byt P) ∧ Below w.heap.size w wr) (fun _ i _ => l.length - (intOf i).toNat)
      case atStart => exact ⟨0, [], rfl, by omega, World.ownsRow_nil _ _ _ _, Lib.hid rfl, by simp, Lib.hid Byt.nil, HB0.out⟩
      case round =>
        rename_i wq
        obtain ⟨k, P, rfl, hk, ho, hE, hPl, hPb, hbel⟩ := hrel
        have hk' : (k : Int) ≤ (l.length : Int) := by omega
        have HO := Lib.hid ho
        obtain ⟨ua, uc, rfl⟩ := own_shape ho
        have hP40 : P.length ≤ 39000 := by omega
        clear ho
        by_cases hlt : k < l.length
        · have hlt' : (k : Int) < (l.length : Int) := by omega
          have hsz := hbel.size
          have HB := Lib.hid hbel
          obtain ⟨b, off, cap', e0, hb, hat⟩ := (HF.out.below hbel).at (by omega)
          simp only [Value.slice.injEq] at e0
          obtain ⟨rfl, _, rfl⟩ := e0
          obtain ⟨e, he⟩ : ∃ e, l[k]? = some e := ⟨_, List.getElem?_eq_getElem hlt⟩
          have hst := wr_step he
          have hrt := (right_iff _).1 (((stand_iff l).1 HM.out.2 k hlt) e he).1
          have hfr := HF.out.rd e (List.mem_of_getElem? he)
          obtain ⟨x0, x1, x2, x3, x4, x5⟩ := hat k e he
          obtain ⟨f, sv, dv⟩ := e
          simp only at x0 x1 x2 x3 x4 x5 hst hrt
          have hfr2 := hfr.below hbel
          have hW := rbytes_any (f := f) (sv := sv) (dv := dv) hfr2.1 hfr2.2 hrt
          have hLl := wrF_len hrt
          have hs1 : Rs w sv f.sp := hfr.1
          have hd1 : Rd w dv f.d := hfr.2
          obtain ⟨sa, sn, rfl⟩ := rs_shape hs1
          obtain ⟨da, dn, rfl⟩ := hd1.shape
          have HST := Lib.hid hst
          unfold fAgg at hW
          generalize wrF f = L at *
          clear hbel hat hfr hfr2 he hs1 hd1 hst hrt
          have hk0 : k = 0 ∨ 0 < k := by omega
          rcases hk0 with rfl | hk0
          · simp only [Nat.zero_mul, Nat.add_zero] at x0 x1 x2 x3 x4 x5
            go_wp2_with (first
              | (go_at_call 28; refine hW.mono ?_; rintro e w2 ⟨v2, rfl, hr2, hb2⟩; obtain ⟨a2, c2, rfl⟩ := hr2.shape)
              | (at_builtin; refine wpList_append_bytes (.tmp 49) (.tmp 54) 26 rfl rfl info5 Tryd.underlying26 w.heap.size _ P.length P rfl (own_keepG HO.out fun k hk _ => hb2.block k hk) _ L rfl hr2 (by omega) (by have := hb2.size; omega) ?_; intro v3 w3 hown3 hb3; obtain ⟨a3, c3, rfl⟩ := own_shape hown3))
            go_roundw
            case rel => exact ⟨1, P ++ L, by go_num, by omega, by simpa using hown3, Lib.hid (by rw [← hE.out, HST.out]; simp), by simp; omega, Lib.hid (hPb.out.app hr2.byt), (HB.out.trans (hb2.mono HB.out.size)).trans hb3⟩
            case measure => simp [intOf]; omega
          · go_wp2_with (first
              | (go_at_call 28; refine hW.mono ?_; rintro e w2 ⟨v2, rfl, hr2, hb2⟩; obtain ⟨a2, c2, rfl⟩ := hr2.shape)
              | (at_builtin; refine wpList_append_bytes (.tmp 49) (.tmp 54) 26 rfl rfl info5 Tryd.underlying26 w.heap.size _ P.length P rfl (own_keepG HO.out fun k hk _ => hb2.block k hk) _ L rfl hr2 (by omega) (by have := hb2.size; omega) ?_; intro v3 w3 hown3 hb3; obtain ⟨a3, c3, rfl⟩ := own_shape hown3))
            go_roundw
            case rel => exact ⟨k + 1, P ++ L, by go_num, by omega, by simpa using hown3, Lib.hid (by rw [← hE.out, HST.out]; simp), by simp; omega, Lib.hid (hPb.out.app hr2.byt), (HB.out.trans (hb2.mono HB.out.size)).trans hb3⟩
            case measure => simp [intOf]; omega
        · obtain rfl : k = l.length := by omega
          have hPe : P = wrAll (l.map Fe.f) := by
            have := hE.out
            rw [List.drop_length] at this
            simpa [wrAll] using this
          have HPE := Lib.hid hPe
          have HB := Lib.hid hbel
          clear hPe hbel
          by_cases hq : 1200 < P.length
          · have hq' : (1200 : Int) < (P.length : Int) := by omega
            go_wp2_with fail
            go_ret2
            exact ⟨_, [], 4, rfl, Rd.nil _, HB.out, .inr (.inl ⟨HM.out, by rw [← HPE.out]; exact hq, rfl, rfl⟩)⟩
          · have hq' : ¬ (1200 : Int) < (P.length : Int) := by omega
            go_wp2_with fail
            go_ret2
            exact ⟨_, P, 0, rfl, (Rd.of_own HO.out hPb.out).1, HB.out, .inr (.inr ⟨HM.out, by rw [← HPE.out]; omega, HPE.out, rfl⟩)⟩
#print axioms grefwrite_any
end Go.Proofs.YtocfkkppalpamaaDoor
namespace Go.Proofs.YtocfkkppalpamaaDoor
open Go Go.RowKit

theorem FeAt.drew {w : World} {b o : Nat} {e : Fe} (h : FeAt w b o e) : FeAt w.drew b o e := ⟨h.c0, h.c1, h.c2, h.c3, h.c4, h.c5⟩
theorem may_eq {L l : List Fe} (h : L.map Fe.f = l.map Fe.f) : mayP L ↔ mayP l := by
  unfold mayP
  rw [h]
  have : L = [] ↔ l = [] := by
    constructor
    · intro e; subst e; simpa using h.symm
    · intro e; subst e; simpa using h
  rw [Ne, Ne, this]
set_option maxRecDepth 20000 in
set_option maxHeartbeats 4000000 in
theorem gwrites_walk {w : World} {v : Value} {l : List Fe} (h : Fl w v l) (ht : Tab w) (hw : 1 < w.heap.size) : Calls Tryd.prog 3 #[v] w fun e w' => e = .returned (.bool true) ∧ Below w.heap.size w w' := by
  have hL := light_any h
  have HF := Lib.hid h
  have HT := Lib.hid ht
  have HW := Lib.hid hw
  obtain ⟨ao, cap, rfl⟩ := h.shape
  clear h ht hw
  go_enter Tryd.func3, Tryd.ntmps3
  go_wp2_with fail
  refine hL.mono ?_
  rintro e w1 ⟨b, rfl, hb, rfl⟩
  clear hL
  cases b with
  | false =>
    go_wp2_with fail
    go_ret
    exact ⟨rfl, Below.refl _ _⟩
  | true =>
    have HLT := Lib.hid (hb rfl)
    have hl30 := HLT.out.1
    clear hb
    go_wp2_with fail
    go_loopw [3] (fun i wr => ∃ k : Nat, i = .int .i64 k ∧ k ≤ l.length ∧ Below w.heap.size w wr) (fun i _ => l.length - (intOf i).toNat)
    case atStart => exact ⟨0, rfl, by omega, Below.refl _ _⟩
    case round =>
      rename_i wr
      obtain ⟨k, rfl, hk, hbr⟩ := hrel
      have hk' : (k : Int) ≤ (l.length : Int) := by omega
      have HBR := Lib.hid hbr
      by_cases hlt : k < l.length
      · have hlt' : (k : Int) < (l.length : Int) := by omega
        obtain ⟨b1, off1, cap1, e1, hl0, hat1⟩ := (HF.out).at (by omega)
        simp only [Value.slice.injEq] at e1
        obtain ⟨rfl, _, rfl⟩ := e1
        obtain ⟨x, hx⟩ : ∃ x, l[k]? = some x := ⟨_, List.getElem?_eq_getElem hlt⟩
        have hc1 := (hat1 k x hx).below hbr hl0
        have hl1 : b1 < wr.drew.heap.size := Nat.lt_of_lt_of_le hl0 hbr.size
        have hf0 := HF.out.rd x (List.mem_of_getElem? hx)
        have hlx := HLT.out.2 x (List.mem_of_getElem? hx)
        obtain ⟨⟨fk, fc, fsp, fa, fd, ft⟩, sv, dv⟩ := x
        have g1 : Rs w sv fsp := hf0.1
        have g2 : Rd w dv fd := hf0.2
        have HS := Lib.hid g1
        have HD := Lib.hid g2
        simp only at hlx
        have HOF := Lib.hid (gof_any (w := wr.drew) (k := fk) (c := fc) (a := fa) (t := ft) (g1.below hbr.drew) (g2.below hbr.drew) hlx.1 hlx.2)
        obtain ⟨sa, sn, rfl⟩ := rs_shape g1
        obtain ⟨da, dn, rfl⟩ := g2.shape
        clear hat1 hf0 g1 g2 hx hbr hlx
        have hk0 : k = 0 ∨ 0 < k := by omega
        rcases hk0 with rfl | hk0
        · simp only [Nat.zero_mul, Nat.add_zero] at hc1
          have HC := Lib.hid hc1.drew
          clear hc1
          go_wp2_with fail
          refine wp_region_end 11 (fun w' => FeAt w' b1 off1 ⟨⟨fk, fc, fsp, fa, fd, ft⟩, .slice sa fsp.length sn, .slice da fd.length dn⟩) (by kernel_rfl) ?_
          refine wpAnyE_take [5, 4, 3, 2, 0] (i := 0) (oi := { dst := some 17, op := Op.move (Operand.tmp 0), type := 22, pos := "law.go:79", after := #[], guard := none }) (v := ?_) rfl (by kernel_rfl) (by kernel_rfl) (by kernel_rfl) (by kernel_rfl) rfl rfl (by kernel_rfl) (by kernel_rfl) (fun _ _ _ h => h) (Or.inl ⟨by rfl, ?_⟩) (by exact HC.out) ?_
          rotate_left
          · intro w hSw; (try dsimp only at hSw); obtain ⟨r0, r1, r2, r3, r4, r5⟩ := hSw; (try simp only at r0 r1 r2 r3 r4 r5); go_simp; try (with_reducible rfl)
          repeat (first | simp only [Act.put] | simp only [List.setIfInBounds_toArray] | simp only [List.set_cons_zero] | simp only [List.set_cons_succ])
          refine wpAnyE_take [5, 4, 3, 2, 1] (i := 1) (oi := { dst := some 18, op := Op.move (Operand.tmp 3), type := 3, pos := "law.go:79", after := #[], guard := none }) (v := ?_) rfl (by kernel_rfl) (by kernel_rfl) (by kernel_rfl) (by kernel_rfl) rfl rfl (by kernel_rfl) (by kernel_rfl) (fun _ _ _ h => h) (Or.inl ⟨by rfl, ?_⟩) (by exact HC.out) ?_
          rotate_left
          · intro w hSw; (try dsimp only at hSw); obtain ⟨r0, r1, r2, r3, r4, r5⟩ := hSw; (try simp only at r0 r1 r2 r3 r4 r5); go_simp; try (with_reducible rfl)
          repeat (first | simp only [Act.put] | simp only [List.setIfInBounds_toArray] | simp only [List.set_cons_zero] | simp only [List.set_cons_succ])
          refine wpAnyE_take [5, 4, 3, 2] (i := 2) (oi := { dst := some 19, op := Op.indexAddr 22 (Operand.tmp 17) (Operand.tmp 18), type := 0, pos := "law.go:79", after := #[{ on := 0, ground := Ground.data }, { on := 1, ground := Ground.data }], guard := none }) (v := ?_) rfl (by kernel_rfl) (by kernel_rfl) (by kernel_rfl) (by kernel_rfl) rfl rfl (by kernel_rfl) (by kernel_rfl) (fun _ _ _ h => h) (Or.inl ⟨by rfl, ?_⟩) (by exact HC.out) ?_
          rotate_left
          · intro w hSw; (try dsimp only at hSw); obtain ⟨r0, r1, r2, r3, r4, r5⟩ := hSw; (try simp only at r0 r1 r2 r3 r4 r5); go_simp; try (with_reducible rfl)
          repeat (first | simp only [Act.put] | simp only [List.setIfInBounds_toArray] | simp only [List.set_cons_zero] | simp only [List.set_cons_succ])
          refine wpAnyE_take [5, 4, 3] (i := 3) (oi := { dst := some 20, op := Op.load 33 (Operand.tmp 19), type := 33, pos := "law.go:79", after := #[{ on := 2, ground := Ground.data }], guard := none }) (v := ?_) rfl (by kernel_rfl) (by kernel_rfl) (by kernel_rfl) (by kernel_rfl) rfl rfl (by kernel_rfl) (by kernel_rfl) (fun _ _ _ h => h) (Or.inl ⟨by rfl, ?_⟩) (by exact HC.out) ?_
          rotate_left
          · intro w hSw; (try dsimp only at hSw); obtain ⟨r0, r1, r2, r3, r4, r5⟩ := hSw; (try simp only at r0 r1 r2 r3 r4 r5); go_simp; try (with_reducible rfl)
          repeat (first | simp only [Act.put] | simp only [List.setIfInBounds_toArray] | simp only [List.set_cons_zero] | simp only [List.set_cons_succ])
          refine wpAnyE_take [10, 9, 8, 6] (i := 6) (oi := { dst := some 23, op := Op.move (Operand.tmp 0), type := 22, pos := "law.go:79", after := #[], guard := none }) (v := ?_) rfl (by kernel_rfl) (by kernel_rfl) (by kernel_rfl) (by kernel_rfl) rfl rfl (by kernel_rfl) (by kernel_rfl) (fun _ _ _ h => h) (Or.inl ⟨by rfl, ?_⟩) (by exact HC.out) ?_
          rotate_left
          · intro w hSw; (try dsimp only at hSw); obtain ⟨r0, r1, r2, r3, r4, r5⟩ := hSw; (try simp only at r0 r1 r2 r3 r4 r5); go_simp; try (with_reducible rfl)
          repeat (first | simp only [Act.put] | simp only [List.setIfInBounds_toArray] | simp only [List.set_cons_zero] | simp only [List.set_cons_succ])
          refine wpAnyE_take [10, 9, 8, 7] (i := 7) (oi := { dst := some 24, op := Op.move (Operand.tmp 3), type := 3, pos := "law.go:79", after := #[], guard := none }) (v := ?_) rfl (by kernel_rfl) (by kernel_rfl) (by kernel_rfl) (by kernel_rfl) rfl rfl (by kernel_rfl) (by kernel_rfl) (fun _ _ _ h => h) (Or.inl ⟨by rfl, ?_⟩) (by exact HC.out) ?_
          rotate_left
          · intro w hSw; (try dsimp only at hSw); obtain ⟨r0, r1, r2, r3, r4, r5⟩ := hSw; (try simp only at r0 r1 r2 r3 r4 r5); go_simp; try (with_reducible rfl)
          repeat (first | simp only [Act.put] | simp only [List.setIfInBounds_toArray] | simp only [List.set_cons_zero] | simp only [List.set_cons_succ])
          refine wpAnyE_take [10, 9, 8] (i := 8) (oi := { dst := some 25, op := Op.indexAddr 22 (Operand.tmp 23) (Operand.tmp 24), type := 0, pos := "law.go:79", after := #[{ on := 6, ground := Ground.data }, { on := 7, ground := Ground.data }], guard := none }) (v := ?_) rfl (by kernel_rfl) (by kernel_rfl) (by kernel_rfl) (by kernel_rfl) rfl rfl (by kernel_rfl) (by kernel_rfl) (fun _ _ _ h => h) (Or.inl ⟨by rfl, ?_⟩) (by exact HC.out) ?_
          rotate_left
          · intro w hSw; (try dsimp only at hSw); obtain ⟨r0, r1, r2, r3, r4, r5⟩ := hSw; (try simp only at r0 r1 r2 r3 r4 r5); go_simp; try (with_reducible rfl)
          repeat (first | simp only [Act.put] | simp only [List.setIfInBounds_toArray] | simp only [List.set_cons_zero] | simp only [List.set_cons_succ])
          refine wpAnyE_take [10, 9] (i := 9) (oi := { dst := some 26, op := Op.load 33 (Operand.tmp 25), type := 33, pos := "law.go:79", after := #[{ on := 8, ground := Ground.data }], guard := none }) (v := ?_) rfl (by kernel_rfl) (by kernel_rfl) (by kernel_rfl) (by kernel_rfl) rfl rfl (by kernel_rfl) (by kernel_rfl) (fun _ _ _ h => h) (Or.inl ⟨by rfl, ?_⟩) (by exact HC.out) ?_
          rotate_left
          · intro w hSw; (try dsimp only at hSw); obtain ⟨r0, r1, r2, r3, r4, r5⟩ := hSw; (try simp only at r0 r1 r2 r3 r4 r5); go_simp; try (with_reducible rfl)
          repeat (first | simp only [Act.put] | simp only [List.setIfInBounds_toArray] | simp only [List.set_cons_zero] | simp only [List.set_cons_succ])
          refine wpAnyE_one (i := 4) (o := { dst := some 21, op := Op.call { callee := Callee.value (Operand.func 11), args := #[Operand.tmp 20], argTypes := #[33] }, type := 29, pos := "law.go:79", after := #[{ on := 3, ground := Ground.data }], guard := none }) (by kernel_rfl) rfl (fun K hK => ?_)
          go_simp
          refine HOF.out.mono ?_
          rintro e w5 ⟨su, du, rfl, hs5, hd5, hp5, hb5⟩
          have HC5 := Lib.hid (HC.out.below hb5 hl1)
          have HR5 := Lib.hid (right_any (f := ⟨fk, fc, fsp, fa, fd, ft⟩) hs5.rd hd5.rd.shape)
          have HB5 := Lib.hid (HBR.out.drew.trans (hb5.mono HBR.out.size))
          have hz5 := hb5.size
          obtain ⟨su1, su2, rfl⟩ := rs_shape hs5.rd
          obtain ⟨du1, du2, rfl⟩ := hd5.rd.shape
          clear hs5 hd5 hp5 hb5
          refine hK.out _ _ (fun hL => ?_) ?_
          · exact HC5.out
          clear hK K
          try dsimp only
          refine wpAnyE_one (i := 5) (o := { dst := some 22, op := Op.call { callee := Callee.value (Operand.func 10), args := #[Operand.tmp 21], argTypes := #[29] }, type := 4, pos := "law.go:79", after := #[{ on := 4, ground := Ground.data }, { on := 4, ground := Ground.chain }], guard := none }) (by kernel_rfl) rfl (fun K hK => ?_)
          go_simp
          refine HR5.out.mono ?_
          rintro e w6 ⟨rfl, hb6⟩
          have HC6 := Lib.hid (HC5.out.below hb6 (Nat.lt_of_lt_of_le hl1 hz5))
          have HB6 := Lib.hid (HB5.out.trans (hb6.mono HB5.out.size))
          have hz6 := hb6.size
          refine hK.out _ _ (fun hL => ?_) ?_
          · exact HC6.out
          clear hK K
          repeat (first | simp only [Act.put] | simp only [List.setIfInBounds_toArray] | simp only [List.set_cons_zero] | simp only [List.set_cons_succ])
          refine wpAnyE_one (i := 10) (o := { dst := some 27, op := Op.call { callee := Callee.value (Operand.func 12), args := #[Operand.tmp 26], argTypes := #[33] }, type := 4, pos := "law.go:79", after := #[{ on := 9, ground := Ground.data }, { on := 5, ground := Ground.chain }], guard := none }) (by kernel_rfl) rfl (fun K hK => ?_)
          go_simp
          refine (grefright_any (w := w6) (k := fk) (c := fc) (a := fa) (t := ft) (HS.out.below HB6.out) (HD.out.below HB6.out)).mono ?_
          rintro e w7 ⟨rfl, hb7⟩
          have HC7 := Lib.hid (HC6.out.below hb7 (Nat.lt_of_lt_of_le hl1 (Nat.le_trans hz5 hz6)))
          refine hK.out _ _ (fun hL => ?_) ?_
          · exact HC7.out
          clear hK K
          repeat (first | simp only [Act.put] | simp only [List.setIfInBounds_toArray] | simp only [List.set_cons_zero] | simp only [List.set_cons_succ])
          generalize rightB ⟨fk, fc, fsp, fa, fd, ft⟩ = rb at *
          have hrb : (rb != rb) = false := by simp
          refine wpAnyE_one (i := 11) (o := { dst := some 28, op := Op.binOp BinOp.neq 4 (Operand.tmp 22) (Operand.tmp 27) 4, type := 4, pos := "law.go:79", after := #[{ on := 5, ground := Ground.data }, { on := 10, ground := Ground.data }], guard := none }) (by kernel_rfl) rfl (fun K hK => ?_)
          go_simp
          refine hK.out _ _ (fun hL => absurd hL (by decide)) ?_
          clear hK K
          refine wpAnyE_done (by kernel_rfl) ?_ _
          go_wp2_with fail
          go_roundw
          case rel => exact ⟨1, by go_num, by omega, HB6.out.trans (hb7.mono HB6.out.size)⟩
          case measure => simp [intOf]; omega
        · have HC := Lib.hid hc1.drew
          clear hc1
          go_wp2_with fail
          refine wp_region_end 11 (fun w' => FeAt w' b1 (off1 + k * 6) ⟨⟨fk, fc, fsp, fa, fd, ft⟩, .slice sa fsp.length sn, .slice da fd.length dn⟩) (by kernel_rfl) ?_
          refine wpAnyE_take [5, 4, 3, 2, 0] (i := 0) (oi := { dst := some 17, op := Op.move (Operand.tmp 0), type := 22, pos := "law.go:79", after := #[], guard := none }) (v := ?_) rfl (by kernel_rfl) (by kernel_rfl) (by kernel_rfl) (by kernel_rfl) rfl rfl (by kernel_rfl) (by kernel_rfl) (fun _ _ _ h => h) (Or.inl ⟨by rfl, ?_⟩) (by exact HC.out) ?_
          rotate_left
          · intro w hSw; (try dsimp only at hSw); obtain ⟨r0, r1, r2, r3, r4, r5⟩ := hSw; (try simp only at r0 r1 r2 r3 r4 r5); go_simp; try (with_reducible rfl)
          repeat (first | simp only [Act.put] | simp only [List.setIfInBounds_toArray] | simp only [List.set_cons_zero] | simp only [List.set_cons_succ])
          refine wpAnyE_take [5, 4, 3, 2, 1] (i := 1) (oi := { dst := some 18, op := Op.move (Operand.tmp 3), type := 3, pos := "law.go:79", after := #[], guard := none }) (v := ?_) rfl (by kernel_rfl) (by kernel_rfl) (by kernel_rfl) (by kernel_rfl) rfl rfl (by kernel_rfl) (by kernel_rfl) (fun _ _ _ h => h) (Or.inl ⟨by rfl, ?_⟩) (by exact HC.out) ?_
          rotate_left
          · intro w hSw; (try dsimp only at hSw); obtain ⟨r0, r1, r2, r3, r4, r5⟩ := hSw; (try simp only at r0 r1 r2 r3 r4 r5); go_simp; try (with_reducible rfl)
          repeat (first | simp only [Act.put] | simp only [List.setIfInBounds_toArray] | simp only [List.set_cons_zero] | simp only [List.set_cons_succ])
          refine wpAnyE_take [5, 4, 3, 2] (i := 2) (oi := { dst := some 19, op := Op.indexAddr 22 (Operand.tmp 17) (Operand.tmp 18), type := 0, pos := "law.go:79", after := #[{ on := 0, ground := Ground.data }, { on := 1, ground := Ground.data }], guard := none }) (v := ?_) rfl (by kernel_rfl) (by kernel_rfl) (by kernel_rfl) (by kernel_rfl) rfl rfl (by kernel_rfl) (by kernel_rfl) (fun _ _ _ h => h) (Or.inl ⟨by rfl, ?_⟩) (by exact HC.out) ?_
          rotate_left
          · intro w hSw; (try dsimp only at hSw); obtain ⟨r0, r1, r2, r3, r4, r5⟩ := hSw; (try simp only at r0 r1 r2 r3 r4 r5); go_simp; try (with_reducible rfl)
          repeat (first | simp only [Act.put] | simp only [List.setIfInBounds_toArray] | simp only [List.set_cons_zero] | simp only [List.set_cons_succ])
          refine wpAnyE_take [5, 4, 3] (i := 3) (oi := { dst := some 20, op := Op.load 33 (Operand.tmp 19), type := 33, pos := "law.go:79", after := #[{ on := 2, ground := Ground.data }], guard := none }) (v := ?_) rfl (by kernel_rfl) (by kernel_rfl) (by kernel_rfl) (by kernel_rfl) rfl rfl (by kernel_rfl) (by kernel_rfl) (fun _ _ _ h => h) (Or.inl ⟨by rfl, ?_⟩) (by exact HC.out) ?_
          rotate_left
          · intro w hSw; (try dsimp only at hSw); obtain ⟨r0, r1, r2, r3, r4, r5⟩ := hSw; (try simp only at r0 r1 r2 r3 r4 r5); go_simp; try (with_reducible rfl)
          repeat (first | simp only [Act.put] | simp only [List.setIfInBounds_toArray] | simp only [List.set_cons_zero] | simp only [List.set_cons_succ])
          refine wpAnyE_take [10, 9, 8, 6] (i := 6) (oi := { dst := some 23, op := Op.move (Operand.tmp 0), type := 22, pos := "law.go:79", after := #[], guard := none }) (v := ?_) rfl (by kernel_rfl) (by kernel_rfl) (by kernel_rfl) (by kernel_rfl) rfl rfl (by kernel_rfl) (by kernel_rfl) (fun _ _ _ h => h) (Or.inl ⟨by rfl, ?_⟩) (by exact HC.out) ?_
          rotate_left
          · intro w hSw; (try dsimp only at hSw); obtain ⟨r0, r1, r2, r3, r4, r5⟩ := hSw; (try simp only at r0 r1 r2 r3 r4 r5); go_simp; try (with_reducible rfl)
          repeat (first | simp only [Act.put] | simp only [List.setIfInBounds_toArray] | simp only [List.set_cons_zero] | simp only [List.set_cons_succ])
          refine wpAnyE_take [10, 9, 8, 7] (i := 7) (oi := { dst := some 24, op := Op.move (Operand.tmp 3), type := 3, pos := "law.go:79", after := #[], guard := none }) (v := ?_) rfl (by kernel_rfl) (by kernel_rfl) (by kernel_rfl) (by kernel_rfl) rfl rfl (by kernel_rfl) (by kernel_rfl) (fun _ _ _ h => h) (Or.inl ⟨by rfl, ?_⟩) (by exact HC.out) ?_
          rotate_left
          · intro w hSw; (try dsimp only at hSw); obtain ⟨r0, r1, r2, r3, r4, r5⟩ := hSw; (try simp only at r0 r1 r2 r3 r4 r5); go_simp; try (with_reducible rfl)
          repeat (first | simp only [Act.put] | simp only [List.setIfInBounds_toArray] | simp only [List.set_cons_zero] | simp only [List.set_cons_succ])
          refine wpAnyE_take [10, 9, 8] (i := 8) (oi := { dst := some 25, op := Op.indexAddr 22 (Operand.tmp 23) (Operand.tmp 24), type := 0, pos := "law.go:79", after := #[{ on := 6, ground := Ground.data }, { on := 7, ground := Ground.data }], guard := none }) (v := ?_) rfl (by kernel_rfl) (by kernel_rfl) (by kernel_rfl) (by kernel_rfl) rfl rfl (by kernel_rfl) (by kernel_rfl) (fun _ _ _ h => h) (Or.inl ⟨by rfl, ?_⟩) (by exact HC.out) ?_
          rotate_left
          · intro w hSw; (try dsimp only at hSw); obtain ⟨r0, r1, r2, r3, r4, r5⟩ := hSw; (try simp only at r0 r1 r2 r3 r4 r5); go_simp; try (with_reducible rfl)
          repeat (first | simp only [Act.put] | simp only [List.setIfInBounds_toArray] | simp only [List.set_cons_zero] | simp only [List.set_cons_succ])
          refine wpAnyE_take [10, 9] (i := 9) (oi := { dst := some 26, op := Op.load 33 (Operand.tmp 25), type := 33, pos := "law.go:79", after := #[{ on := 8, ground := Ground.data }], guard := none }) (v := ?_) rfl (by kernel_rfl) (by kernel_rfl) (by kernel_rfl) (by kernel_rfl) rfl rfl (by kernel_rfl) (by kernel_rfl) (fun _ _ _ h => h) (Or.inl ⟨by rfl, ?_⟩) (by exact HC.out) ?_
          rotate_left
          · intro w hSw; (try dsimp only at hSw); obtain ⟨r0, r1, r2, r3, r4, r5⟩ := hSw; (try simp only at r0 r1 r2 r3 r4 r5); go_simp; try (with_reducible rfl)
          repeat (first | simp only [Act.put] | simp only [List.setIfInBounds_toArray] | simp only [List.set_cons_zero] | simp only [List.set_cons_succ])
          refine wpAnyE_one (i := 4) (o := { dst := some 21, op := Op.call { callee := Callee.value (Operand.func 11), args := #[Operand.tmp 20], argTypes := #[33] }, type := 29, pos := "law.go:79", after := #[{ on := 3, ground := Ground.data }], guard := none }) (by kernel_rfl) rfl (fun K hK => ?_)
          go_simp
          refine HOF.out.mono ?_
          rintro e w5 ⟨su, du, rfl, hs5, hd5, hp5, hb5⟩
          have HC5 := Lib.hid (HC.out.below hb5 hl1)
          have HR5 := Lib.hid (right_any (f := ⟨fk, fc, fsp, fa, fd, ft⟩) hs5.rd hd5.rd.shape)
          have HB5 := Lib.hid (HBR.out.drew.trans (hb5.mono HBR.out.size))
          have hz5 := hb5.size
          obtain ⟨su1, su2, rfl⟩ := rs_shape hs5.rd
          obtain ⟨du1, du2, rfl⟩ := hd5.rd.shape
          clear hs5 hd5 hp5 hb5
          refine hK.out _ _ (fun hL => ?_) ?_
          · exact HC5.out
          clear hK K
          try dsimp only
          refine wpAnyE_one (i := 5) (o := { dst := some 22, op := Op.call { callee := Callee.value (Operand.func 10), args := #[Operand.tmp 21], argTypes := #[29] }, type := 4, pos := "law.go:79", after := #[{ on := 4, ground := Ground.data }, { on := 4, ground := Ground.chain }], guard := none }) (by kernel_rfl) rfl (fun K hK => ?_)
          go_simp
          refine HR5.out.mono ?_
          rintro e w6 ⟨rfl, hb6⟩
          have HC6 := Lib.hid (HC5.out.below hb6 (Nat.lt_of_lt_of_le hl1 hz5))
          have HB6 := Lib.hid (HB5.out.trans (hb6.mono HB5.out.size))
          have hz6 := hb6.size
          refine hK.out _ _ (fun hL => ?_) ?_
          · exact HC6.out
          clear hK K
          repeat (first | simp only [Act.put] | simp only [List.setIfInBounds_toArray] | simp only [List.set_cons_zero] | simp only [List.set_cons_succ])
          refine wpAnyE_one (i := 10) (o := { dst := some 27, op := Op.call { callee := Callee.value (Operand.func 12), args := #[Operand.tmp 26], argTypes := #[33] }, type := 4, pos := "law.go:79", after := #[{ on := 9, ground := Ground.data }, { on := 5, ground := Ground.chain }], guard := none }) (by kernel_rfl) rfl (fun K hK => ?_)
          go_simp
          refine (grefright_any (w := w6) (k := fk) (c := fc) (a := fa) (t := ft) (HS.out.below HB6.out) (HD.out.below HB6.out)).mono ?_
          rintro e w7 ⟨rfl, hb7⟩
          have HC7 := Lib.hid (HC6.out.below hb7 (Nat.lt_of_lt_of_le hl1 (Nat.le_trans hz5 hz6)))
          refine hK.out _ _ (fun hL => ?_) ?_
          · exact HC7.out
          clear hK K
          repeat (first | simp only [Act.put] | simp only [List.setIfInBounds_toArray] | simp only [List.set_cons_zero] | simp only [List.set_cons_succ])
          generalize rightB ⟨fk, fc, fsp, fa, fd, ft⟩ = rb at *
          have hrb : (rb != rb) = false := by simp
          refine wpAnyE_one (i := 11) (o := { dst := some 28, op := Op.binOp BinOp.neq 4 (Operand.tmp 22) (Operand.tmp 27) 4, type := 4, pos := "law.go:79", after := #[{ on := 5, ground := Ground.data }, { on := 10, ground := Ground.data }], guard := none }) (by kernel_rfl) rfl (fun K hK => ?_)
          go_simp
          refine hK.out _ _ (fun hL => absurd hL (by decide)) ?_
          clear hK K
          refine wpAnyE_done (by kernel_rfl) ?_ _
          go_wp2_with fail
          go_roundw
          case rel => exact ⟨k + 1, by go_num, by omega, HB6.out.trans (hb7.mono HB6.out.size)⟩
          case measure => simp [intOf]; omega
      · obtain rfl : k = l.length := by omega
        have hall := gall_any (HF.out.below hbr) HLT.out
        clear hbr
        go_wp2_with fail
        refine hall.mono ?_
        rintro e w1 ⟨u, L, rfl, hfo, hmap, hb1⟩
        have HB1 := Lib.hid (HBR.out.trans (hb1.mono HBR.out.size))
        have hlen : L.length = l.length := by simpa using congrArg List.length hmap
        have hW := gwrite_any hfo.fl (by omega) (HT.out.below HB1.out) (by have := HB1.out.size; have := HW.out; omega)
        have HME := Lib.hid (may_eq hmap)
        have HM := Lib.hid hmap
        obtain ⟨ua, uc, rfl⟩ := hfo.shape
        clear hall hfo hmap hb1 hlen
        go_wp2_with fail
        refine hW.mono ?_
        rintro e w2 ⟨z, zs, n, rfl, ⟨hz, _⟩, hb2, hc⟩
        have HB2 := Lib.hid (HB1.out.trans (hb2.mono HB1.out.size))
        have hRW := grefwrite_any (HF.out.below HB2.out) hl30
        have HZ := Lib.hid hz.rd
        have HCC := Lib.hid hc
        obtain ⟨za, zc, rfl⟩ := hz.rd.shape
        clear hW hc hb2 hz
        go_wp2_with fail
        refine hRW.mono ?_
        rintro e w3 ⟨y, ys, m, rfl, hy, hb3, hc3⟩
        have HB3 := Lib.hid (HB2.out.trans (hb3.mono HB2.out.size))
        have hsame : ys = zs ∧ m = n := by
          have hc := HCC.out
          rw [HME.out, HM.out] at hc
          rcases hc with ⟨h1, h2, h3⟩ | ⟨h1, h4, h2, h3⟩ | ⟨h1, h4, h2, h3⟩ <;> rcases hc3 with ⟨q1, q2, q3⟩ | ⟨q1, q4, q2, q3⟩ | ⟨q1, q4, q2, q3⟩
          · exact ⟨by rw [q2, h2], by omega⟩
          · exact absurd q1 h1
          · exact absurd q1 h1
          · exact absurd h1 q1
          · exact ⟨by rw [q2, h2], by omega⟩
          · omega
          · exact absurd h1 q1
          · omega
          · exact ⟨by rw [q2, h2], by omega⟩
        obtain ⟨rfl, rfl⟩ := hsame
        have hsm := same_true (HZ.out.below hb3) hy
        obtain ⟨ya, yc, rfl⟩ := hy.shape
        have hmm : (m == m) = true := by simp
        clear hRW hb3 hc3 hy HCC
        go_wp2_with (first
          | (go_at_call 16; refine hsm.mono ?_; rintro e w4 ⟨rfl, hb4⟩; have HB4 := Lib.hid (HB3.out.trans (hb4.mono HB3.out.size)))
          | (go_at_call 17; refine (gawake_any (HT.out.below HB4.out)).mono ?_; rintro e w5 ⟨rfl, hb5⟩))
        go_ret
        exact ⟨rfl, HB4.out.trans (hb5.mono HB4.out.size)⟩
#print axioms gwrites_walk
end Go.Proofs.YtocfkkppalpamaaDoor
