/- law 6: all: frames of the document as frames of the program. -/
import Derived.Test.YtocfkkppalpamaaDoorGOf
import Derived.Test.YtocfkkppalpamaaDoorGRd9
import Derived.Test.YtocfkkppalpamaaDoorGLt
namespace Go.Proofs.YtocfkkppalpamaaDoor
open Go Go.RowKit

/-- What all hands back. -/
def AllPost (w : World) (l : List Fe) (e : Ending) (w' : World) : Prop := ∃ u L, e = .returned u ∧ Fo w.heap.size w' u L ∧ L.map Fe.f = l.map Fe.f ∧ Below w.heap.size w w'
theorem own_lt {w : World} {lo : Nat} {v : Value} {n g : Nat} {T : TypeId} {sz : Nat} {xs : List Value} (h : w.ownsRow lo T sz v n xs) (hg : v.ownBlock = some g) : g < w.heap.size ∧ lo ≤ g := by
  rcases h.2 with ⟨rfl, _⟩ | ⟨g2, cap, cur, rfl, h1, hh, _⟩
  · cases hg
  · cases hg; exact ⟨(Array.getElem?_eq_some_iff.1 hh).1, h1⟩
/-- One more is taken over. -/
theorem all_step {lo : Nat} {w1 w2 : World} {u : Value} {L : List Fe} (h : Fo lo w1 u L) (hb : Below w1.heap.size w1 w2) (hl : L.length ≤ 2000) (hlo : lo ≤ w1.heap.size) (e : Fe) (hs : RsA w1.heap.size w2 e.sv e.f.sp) (hd : Ra w1.heap.size w2 e.dv e.f.d) (hp : Plain e.dv) :
    ∃ v' w', (Builtin.append_ #[38, 38] 38 #[u, .slice (some ⟨w2.heap.size, 0, none⟩) 1 1]).run Tryd.prog (w2.alloc (.cells #[.int .i64 e.f.k, .int .i64 e.f.c, e.sv, .int .i64 e.f.a, e.dv, .int .i64 e.f.t] 29)) = .ok v' w' ∧ Fo lo w' v' (L ++ [e]) ∧ Below lo w1 w' := by
  have hb2 := below_alloc w2 (.cells #[.int .i64 e.f.k, .int .i64 e.f.c, e.sv, .int .i64 e.f.a, e.dv, .int .i64 e.f.t] 29)
  have hb3 := hb.trans (hb2.mono hb.size)
  have hF : Fo lo (w2.alloc (.cells #[.int .i64 e.f.k, .int .i64 e.f.c, e.sv, .int .i64 e.f.a, e.dv, .int .i64 e.f.t] 29)) u L := h.keep fun k hk _ => hb3.block k hk
  have hsz := hb.size
  obtain ⟨v', w', h1, h2, h3⟩ := hF.app hl (by simp; omega) e (hs.below hb2) (hd.below hb2) hp hlo (fun g hg => (own_lt h.own hg).1) w2.heap.size (feC_new w2 e) 38
  exact ⟨v', w', h1, h2, (hb3.mono hlo).trans (below_own hF.own (by simp; omega) h3)⟩
set_option maxRecDepth 20000 in
set_option maxHeartbeats 2000000 in
theorem gall_any {w : World} {v : Value} {l : List Fe} (h : Fl w v l) (hl : LightP l) : Calls Tryd.prog 14 #[v] w (AllPost w l) := by
  have HF := Lib.hid h
  have HLT := Lib.hid hl
  have h30 : l.length ≤ 30 := hl.1
  obtain ⟨ao, cap, rfl⟩ := h.shape
  clear h hl
  go_enter Tryd.func14, Tryd.ntmps14
  go_wp2_with fail
  go_loopw [3, 4] (fun u i wr => ∃ (k : Nat) (L : List Fe), i = .int .i64 k ∧ k ≤ l.length ∧ Hid (Fo w.heap.size wr u L ∧ L.map Fe.f = (l.take k).map Fe.f ∧ Below w.heap.size w wr)) (fun _ i _ => l.length - (intOf i).toNat)
  case atStart => exact ⟨0, [], rfl, by omega, Lib.hid ⟨Fo.nil _ _, by simp, Below.refl _ _⟩⟩
  case round =>
    rename_i wr
    obtain ⟨k, L, rfl, hk, HR⟩ := hrel
    have hk' : (k : Int) ≤ (l.length : Int) := by omega
    obtain ⟨ua, uc, rfl⟩ := HR.out.1.shape
    have HLL : Hid (L.length = k) := Lib.hid (by
      have := congrArg List.length HR.out.2.1
      simp at this; omega)
    by_cases hlt : k < l.length
    · have hlt' : (k : Int) < (l.length : Int) := by omega
      obtain ⟨b, off, cap', e0, hb, hat⟩ := HF.out.at (by omega)
      simp only [Value.slice.injEq] at e0
      obtain ⟨rfl, _, rfl⟩ := e0
      obtain ⟨e, he⟩ : ∃ e, l[k]? = some e := ⟨_, List.getElem?_eq_getElem hlt⟩
      have hfr := HF.out.rd e (List.mem_of_getElem? he)
      have hlp := HLT.out.2 e (List.mem_of_getElem? he)
      have hsz := HR.out.2.2.size
      obtain ⟨x0, x1, x2, x3, x4, x5⟩ := (hat k e he).below HR.out.2.2 hb
      have HT : Hid (l.take (k + 1) = l.take k ++ [e]) := Lib.hid (by
        obtain ⟨h1, h2⟩ := List.getElem?_eq_some_iff.1 he
        rw [List.take_succ_eq_append_getElem h1, h2])
      obtain ⟨⟨fk, fc, fsp, fa, fd, ft⟩, sv, dv⟩ := e
      simp only at x0 x1 x2 x3 x4 x5 hlp
      have hof := gof_any (w := wr) (k := fk) (c := fc) (a := fa) (t := ft) (sp := fsp) (d := fd) (hfr.1.below HR.out.2.2) (hfr.2.below HR.out.2.2) hlp.1 hlp.2
      have hs1 : Rs w sv fsp := hfr.1
      have hd1 : Rd w dv fd := hfr.2
      obtain ⟨sa, sn, rfl⟩ := rs_shape hs1
      obtain ⟨da, dn, rfl⟩ := hd1.shape
      unfold fAgg at hof
      clear hat hfr he hlp hs1 hd1
      have hk0 : k = 0 ∨ 0 < k := by omega
      have HN : ∀ (su du : Value), Hid ((L ++ [(⟨⟨fk, fc, fsp, fa, fd, ft⟩, su, du⟩ : Fe)]).map Fe.f = (l.take (k + 1)).map Fe.f) := fun su du => Lib.hid (by rw [HT.out, List.map_append, List.map_append, HR.out.2.1]; rfl)
      rcases hk0 with rfl | hk0
      · simp only [Nat.zero_mul, Nat.add_zero] at x0 x1 x2 x3 x4 x5
        go_wp2_with (first
          | (go_at_call 11; refine hof.mono ?_; rintro e w2 ⟨su, du, rfl, hs2, hd2, hp2, hb2⟩; obtain ⟨v6, w6, hr6, hg6, hb6⟩ := all_step HR.out.1 hb2 (by have := HLL.out; omega) hsz ⟨⟨fk, fc, fsp, fa, fd, ft⟩, su, du⟩ hs2 hd2 hp2; have HG6 := Lib.hid hg6; have HB6 := Lib.hid hb6; clear hg6 hb6; obtain ⟨a6, c6, rfl⟩ := HG6.out.shape; obtain ⟨sa2, sn2, rfl⟩ := rs_shape hs2.rd; obtain ⟨da2, dn2, rfl⟩ := hd2.rd.shape; clear hs2 hd2 hp2 hb2; unfold fAgg; (try simp only at hr6))
          | (at_builtin; refine wpList_run_ok (.tmp 11) (.tmp 17) _ rfl rfl rfl rfl hr6 ?_))
        have HG7 := HG6.out
        simp only [List.length_append, List.length_cons, List.length_nil, Nat.zero_add] at HG7
        go_roundw
        case rel => exact ⟨1, _, by go_num, by omega, Lib.hid ⟨HG7, (HN _ _).out, HR.out.2.2.trans HB6.out⟩⟩
        case measure => simp [intOf]; omega
      · go_wp2_with (first
          | (go_at_call 11; refine hof.mono ?_; rintro e w2 ⟨su, du, rfl, hs2, hd2, hp2, hb2⟩; obtain ⟨v6, w6, hr6, hg6, hb6⟩ := all_step HR.out.1 hb2 (by have := HLL.out; omega) hsz ⟨⟨fk, fc, fsp, fa, fd, ft⟩, su, du⟩ hs2 hd2 hp2; have HG6 := Lib.hid hg6; have HB6 := Lib.hid hb6; clear hg6 hb6; obtain ⟨a6, c6, rfl⟩ := HG6.out.shape; obtain ⟨sa2, sn2, rfl⟩ := rs_shape hs2.rd; obtain ⟨da2, dn2, rfl⟩ := hd2.rd.shape; clear hs2 hd2 hp2 hb2; unfold fAgg; (try simp only at hr6))
          | (at_builtin; refine wpList_run_ok (.tmp 11) (.tmp 17) _ rfl rfl rfl rfl hr6 ?_))
        have HG7 := HG6.out
        simp only [List.length_append, List.length_cons, List.length_nil, Nat.zero_add] at HG7
        go_roundw
        case rel => exact ⟨k + 1, _, by go_num, by omega, Lib.hid ⟨HG7, (HN _ _).out, HR.out.2.2.trans HB6.out⟩⟩
        case measure => simp [intOf]; omega
    · obtain rfl : k = l.length := by omega
      go_wp2_with fail
      go_ret
      exact ⟨_, L, rfl, HR.out.1, by rw [HR.out.2.1, List.take_length], HR.out.2.2⟩
#print axioms gall_any
end Go.Proofs.YtocfkkppalpamaaDoor
