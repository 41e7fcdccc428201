/- Which of any numbers are fresh, one by one, and which is the greatest. -/
import Derived.Test.YthlmodhglldajaaWnRef
import Derived.Test.YthlmodhglldajaaWnLaw2
namespace Go.Proofs.Ythlmodhglldajaa
open Go Go.RowKit

theorem mk_len (L : List Int) (x : Int) : (mk L x).length ≤ L.length + 1 := by
  unfold mk
  split
  · simp
  · omega
theorem mks_len (l : List Int) : (mks l).length ≤ l.length := by
  have key : ∀ (l L : List Int), (l.foldl mk L).length ≤ L.length + l.length := by
    intro l
    induction l with
    | nil => intro L; simp
    | cons x r ih =>
      intro L
      have h1 := ih (mk L x)
      have h2 := mk_len L x
      simp only [List.foldl_cons, List.length_cons]
      omega
  have := key l []
  simpa [mks] using this
/-- A slice that came in: empty, or its cells lie so. -/
def Came (w : World) (ao : Option Addr) (l : List Int) : Prop := l = [] ∨ ∃ b off, ao = some ⟨b, off, none⟩ ∧ ∀ j, j < l.length → w.cell? ⟨b, off + j, none⟩ = some (.int .i64 (l.getD j 0))
/-- Both windows, of one list. -/
def Two (w0 : World) (w : World) (L : List Int) : Prop := (∃ m, Wn w w0.heap.size L m) ∧ Rn (w0.heap.size + 1) w (w0.heap.size + 1) L ∧ Below w0.heap.size w0 w
theorem two_new (w0 : World) : Two w0 ((w0.alloc (.cells #[.int .i64 0, .int .u64 0] 33)).alloc (.cells #[.slice none 0 0] 36)) [] := by
  refine ⟨⟨0, (wn_new w0).keep ?_⟩, ⟨Ok.nil, by simp, Nat.le_refl _, .slice none 0 0, ?_, World.ownsRow_nil _ _ _ _⟩, ((Below.refl _ _).alloc (Nat.le_refl _) _).alloc (by simp) _⟩
  · exact (below_alloc (w0.alloc (.cells #[.int .i64 0, .int .u64 0] 33)) (.cells #[.slice none 0 0] 36)).block _ (wn_new w0).lt
  · have := heap_alloc_new (w0.alloc (.cells #[.int .i64 0, .int .u64 0] 33)) (.cells #[Value.slice none 0 0] 36)
    simpa using this
theorem Two.drew {w0 w : World} {L : List Int} (h : Two w0 w L) : Two w0 w.drew L := by
  obtain ⟨⟨m, h1⟩, h2, h3⟩ := h
  exact ⟨⟨m, h1.keep rfl⟩, h2.drew, h3.drew⟩
/-- Behind the program's mark: the document's window stands as it was. -/
theorem two_one {w0 w w1 : World} {L M : List Int} (h : Two w0 w L) (h1 : Mkd w w0.heap.size M w1) : Rn (w0.heap.size + 1) w1 (w0.heap.size + 1) L ∧ Below w0.heap.size w0 w1 ∧ ∃ m, Wn w1 w0.heap.size M m :=
  ⟨h.2.1.but h1.2 (by omega), h1.2.below h.2.2 (Nat.le_refl _) h.2.2.size, h1.1⟩
theorem two_two {w0 w1 w2 : World} {M : List Int} (hb : Below w0.heap.size w0 w1) (h1 : ∃ m, Wn w1 w0.heap.size M m) (h2 : Rn (w0.heap.size + 1) w2 (w0.heap.size + 1) M) (b2 : Below (w0.heap.size + 1) w1 w2) : Two w0 w2 M := by
  obtain ⟨m, h1⟩ := h1
  exact ⟨⟨m, h1.keep (b2.block _ (by omega))⟩, h2, hb.trans (b2.mono (by omega))⟩

set_option maxHeartbeats 4000000 in
theorem marks_some {w0 : World} {ao bo : Option Addr} {cap cbp : Nat} {l ask : List Int} (hl : l.length ≤ 200) (ha : ask.length ≤ 200) (cl : Came w0 ao l) (ca : Came w0 bo ask) :
    Calls Try.prog 8 #[.slice ao l.length cap, .slice bo ask.length cbp] w0 fun e w' => e = .returned (.bool true) ∧ Below w0.heap.size w0 w' := by
  have h0 := two_new w0
  have hl' : (l.length : Int) ≤ 200 := by omega
  have ha' : (ask.length : Int) ≤ 200 := by omega
  go_enter Try.func8, Try.ntmps8
  go_wp2_with fail
  go_loopw [7] (fun i w => ∃ k : Nat, k ≤ l.length ∧ i = .int .i64 k ∧ Two w0 w (mks (l.take k))) (fun i _ => l.length - (intOf i).toNat)
  case atStart => exact ⟨0, by omega, rfl, h0⟩
  case round =>
    obtain ⟨k, hk, rfl, htw⟩ := hrel
    have hk' : (k : Int) ≤ (l.length : Int) := by omega
    clear h0
    by_cases hlt : k < l.length
    · have hlt' : (k : Int) < (l.length : Int) := by omega
      rcases cl with e | ⟨b, off, rfl, hcell⟩
      · rw [e] at hlt; simp at hlt
      have hx := hcell k hlt
      have HC := Lib.hid hcell
      have HT := Lib.hid (mks_take hlt)
      have hLl : (mks (l.take k)).length < 200 := by have := mks_len (l.take k); rw [List.length_take] at this; omega
      clear hcell
      generalize l.getD k 0 = x at hx HT
      generalize mks (l.take k) = L at htw HT hLl
      have htd := htw.drew
      have hx0 := cells_keep hx htd.2.2
      obtain ⟨m, hm⟩ := htd.1
      have hfr := fresh_any hm x
      have hmk := mark_any hm x
      have hrf := rfresh_any htd.2.1 x
      obtain ⟨f, hf⟩ : ∃ f, frB L x = f := ⟨_, rfl⟩
      have HF := Lib.hid hf
      rw [hf] at hfr hmk hrf
      have HTD := Lib.hid htd
      have HX := Lib.hid hx
      have HL := Lib.hid hLl
      clear hf hm htd hx htw hLl
      go_wp2_with fail
      cases f
      all_goals
        go_region_held3 (fun w' => w'.cell? ⟨b, off + k, none⟩ = some (.int .i64 x))
          (first | with_reducible exact hx0 | with_reducible exact c1 | with_reducible exact c2)
          (first
            | (go_at_call 19; refine hfr.mono ?_; rintro e w' ⟨rfl, rfl⟩)
            | (go_at_call 20; refine hrf.mono ?_; rintro e w' ⟨rfl, rfl⟩)
            | (go_at_call 21; refine hmk.mono ?_; rintro e w1 ⟨rfl, hmkd⟩; have h21 := Lib.hid (two_one HTD.out hmkd); have c1 := cells_keep HX.out h21.out.2.1; have hrm := rmark_any h21.out.1 x HL.out; rw [HF.out] at hrm; clear hmkd)
            | (go_at_call 22; refine hrm.mono ?_; rintro e w2 ⟨rfl, hr2, hb2⟩; have h22 := Lib.hid (two_two h21.out.2.1 h21.out.2.2 hr2 hb2); clear hr2 hb2; have c2 := cells_keep HX.out h22.out.2.2; obtain ⟨m2, hm2⟩ := h22.out.1; have hg1 := grt_any hm2; have hg2 := rgrt_any h22.out.2.1; clear hm2)
            | (go_at_call 23; refine hg1.mono ?_; rintro e w' ⟨rfl, rfl⟩)
            | (go_at_call 24; refine hg2.mono ?_; rintro e w' ⟨rfl, rfl⟩))
        have HR : Hid (Two w0 w2 (mks (l.take (k + 1)))) := Lib.hid (by rw [HT.out]; exact h22.out)
        clear hg1 hg2 hrm hmk hfr hrf c1 c2 hx0 h21 h22
        go_wp2_with fail
        go_roundw
        case rel => exact ⟨k + 1, by omega, by go_num, HR.out⟩
        case measure => simp [intOf]; omega
    · obtain rfl : k = l.length := by omega
      clear cl
      generalize mks (l.take l.length) = L at htw
      go_wp2_with fail
      go_loopw [8] (fun i w => ∃ k : Nat, k ≤ ask.length ∧ i = .int .i64 k ∧ Two w0 w L) (fun i _ => ask.length - (intOf i).toNat)
      case atStart => exact ⟨0, by omega, rfl, htw⟩
      case round =>
        obtain ⟨k, hk, rfl, htw⟩ := hrel
        have hk' : (k : Int) ≤ (ask.length : Int) := by omega
        by_cases hlt : k < ask.length
        · have hlt' : (k : Int) < (ask.length : Int) := by omega
          rcases ca with e | ⟨b, off, rfl, hcell⟩
          · rw [e] at hlt; simp at hlt
          have hx := hcell k hlt
          clear hcell
          generalize ask.getD k 0 = x at hx
          have htd := htw.drew
          have hx0 := cells_keep hx htd.2.2
          obtain ⟨m, hm⟩ := htd.1
          have hfr := fresh_any hm x
          have hrf := rfresh_any htd.2.1 x
          generalize frB L x = f at hfr hrf
          have HTD := Lib.hid htd
          clear hm htd hx htw
          go_wp2_with fail
          cases f
          all_goals
            go_region_held3 (fun w' => w'.cell? ⟨b, off + k, none⟩ = some (.int .i64 x))
              (with_reducible exact hx0)
              (first
                | (go_at_call 19; refine hfr.mono ?_; rintro e w' ⟨rfl, rfl⟩)
                | (go_at_call 20; refine hrf.mono ?_; rintro e w' ⟨rfl, rfl⟩))
            clear hfr hrf hx0
            go_wp2_with fail
            go_roundw
            case rel => exact ⟨k + 1, by omega, by go_num, HTD.out⟩
            case measure => simp [intOf]; omega
        · obtain rfl : k = ask.length := by omega
          have hbel := htw.2.2
          have hsz := hbel.size
          clear htw
          go_wp2_with (first | (go_at_call 19; refine (fresh_nil _ _).mono ?_; rintro e w' ⟨rfl, rfl⟩) | (go_at_call 21; refine (mark_nil _ _).mono ?_; rintro e w' ⟨rfl, rfl⟩) | (go_at_call 23; refine (grt_nil _).mono ?_; rintro e w' ⟨rfl, rfl⟩) | (go_at_call 25; refine (wawake_any _).mono ?_; rintro e w2 ⟨rfl, b2⟩))
          go_ret
          exact ⟨rfl, hbel.trans (b2.mono hsz)⟩
theorem marks_long {w0 : World} {ao bo : Option Addr} {n m cap cbp : Nat} (h : 200 < n ∨ 200 < m) : Calls Try.prog 8 #[.slice ao n cap, .slice bo m cbp] w0 fun e w' => e = .returned (.bool true) ∧ Below w0.heap.size w0 w' := by
  by_cases h1 : 200 < n
  · have h' : (200 : Int) < (n : Int) := by omega
    clear h h1
    go_enter Try.func8, Try.ntmps8
    go_wp2_with fail
    go_ret
    exact ⟨rfl, Below.refl _ _⟩
  · have h' : (n : Int) ≤ 200 := by omega
    have h2 : (200 : Int) < (m : Int) := by omega
    clear h h1
    go_enter Try.func8, Try.ntmps8
    go_wp2_with fail
    go_ret
    exact ⟨rfl, Below.refl _ _⟩
theorem came_of {w : World} {v : Value} {l : List Int} (h : Rd .i64 w v l) : ∃ ao cap, v = .slice ao l.length cap ∧ Came w ao l := by
  rcases h.cases with ⟨rfl, ao, cap, rfl, _⟩ | ⟨b, off, cap, rfl, _, _, _, _, h5⟩
  · exact ⟨ao, cap, rfl, Or.inl rfl⟩
  · exact ⟨_, cap, rfl, Or.inr ⟨b, off, rfl, h5⟩⟩
/-- The law, for any two slices. -/
theorem marks_walk {w0 : World} {v u : Value} {l ask : List Int} (hr : Rd .i64 w0 v l) (hq : Rd .i64 w0 u ask) : Calls Try.prog 8 #[v, u] w0 fun e w' => e = .returned (.bool true) ∧ Below w0.heap.size w0 w' := by
  obtain ⟨ao, cap, rfl, cl⟩ := came_of hr
  obtain ⟨bo, cbp, rfl, ca⟩ := came_of hq
  by_cases h : l.length ≤ 200 ∧ ask.length ≤ 200
  · exact marks_some h.1 h.2 cl ca
  · exact marks_long (by omega)
end Go.Proofs.Ythlmodhglldajaa
