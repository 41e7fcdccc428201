/- The document's window: a list. -/
import Derived.Test.YthlmodhglldajaaWnLaw
namespace Go.Proofs.Ythlmodhglldajaa
open Go Go.RowKit

/-- The document's window in block B: L is marked; its row lies from base on, in another block. -/
structure Rn (base : Nat) (w : World) (B : Nat) (L : List Int) : Prop where
  ok : Ok L
  len : L.length ≤ 200
  low : base ≤ B
  box : ∃ v, w.heap[B]? = some (.cells #[v] 36 (0, 0)) ∧ w.ownsRow (B + 1) 3 1 v L.length (cs .i64 L)
theorem Rn.lt {base : Nat} {w : World} {B : Nat} {L : List Int} (h : Rn base w B L) : B < w.heap.size := by obtain ⟨v, h1, _⟩ := h.box; exact blk_lt h1
theorem Rn.but {base : Nat} {w w' : World} {B A : Nat} {L : List Int} (h : Rn base w B L) (hb : But A w w') (hA : A < base) : Rn base w' B L := by
  obtain ⟨v, h1, h2⟩ := h.box
  have hlow := h.low
  exact ⟨h.ok, h.len, h.low, v, by rw [hb.block B h.lt (by omega)]; exact h1, own_keep h2 fun g hg => hb.block g (h2.lt g hg).2 (by have := (h2.lt g hg).1; omega)⟩
theorem Rn.drew {base : Nat} {w : World} {B : Nat} {L : List Int} (h : Rn base w B L) : Rn base w.drew B L := by
  obtain ⟨v, h1, h2⟩ := h.box
  exact ⟨h.ok, h.len, h.low, v, h1, own_keep h2 fun _ _ => rfl⟩

theorem ret_in {k : IntKind} {a b : Int} (h : a = b) : Ending.returned (.int k a) = .returned (.int k b) := by rw [h]
theorem fold_take {L : List Int} {k : Nat} (h : k < L.length) : (L.take (k + 1)).foldl max (-1) = max ((L.take k).foldl max (-1)) (L.getD k 0) := by
  rw [List.take_succ_eq_append_getElem h, List.foldl_append]
  simp [List.getD, h]
set_option maxHeartbeats 1000000 in
theorem rgrt_some {w : World} {B b off cap : Nat} {L : List Int} (hc : w.cell? ⟨B, 0, none⟩ = some (.slice (some ⟨b, off, none⟩) L.length cap)) (hcell : ∀ j, j < L.length → w.cell? ⟨b, off + j, none⟩ = some (.int .i64 (L.getD j 0))) (hl : L.length ≤ 200) :
    Calls Try.prog 24 #[.pointer (some ⟨B, 0, none⟩)] w fun e w' => e = .returned (.int .i64 (gr L)) ∧ w = w' := by
  have HC := Lib.hid hcell
  clear hcell
  have hl' : (L.length : Int) ≤ 200 := by omega
  go_enter Try.func24, Try.ntmps24
  go_wp2_with fail
  go_loop [3, 4] (fun g i => ∃ k : Nat, k ≤ L.length ∧ i = .int .i64 k ∧ g = .int .i64 ((L.take k).foldl max (-1))) (fun _ i => L.length - (intOf i).toNat)
  case atStart => exact ⟨0, by omega, rfl, rfl⟩
  case round =>
    obtain ⟨k, hk, rfl, rfl⟩ := hrel
    have hk' : (k : Int) ≤ (L.length : Int) := by omega
    by_cases hlt : k < L.length
    · have hlt' : (k : Int) < (L.length : Int) := by omega
      have hx := HC.out k hlt
      have HF := Lib.hid (fold_take hlt)
      generalize L.getD k 0 = x at hx HF
      generalize (L.take k).foldl max (-1) = g at HF
      by_cases hg : g ≤ x
      · go_wp2_with fail
        go_round
        case rel => exact ⟨k + 1, by omega, by go_num, by rw [HF.out]; go_num⟩
        case measure => simp [intOf]; omega
      · go_wp2_with fail
        go_round
        case rel => exact ⟨k + 1, by omega, by go_num, by rw [HF.out]; go_num⟩
        case measure => simp [intOf]; omega
    · obtain rfl : k = L.length := by omega
      go_wp2_with fail
      go_ret
      exact ⟨ret_in rfl, rfl⟩
theorem rgrt_nil {w : World} {B cap : Nat} {ao : Option Addr} (hc : w.cell? ⟨B, 0, none⟩ = some (.slice ao 0 cap)) :
    Calls Try.prog 24 #[.pointer (some ⟨B, 0, none⟩)] w fun e w' => e = .returned (.int .i64 (-1)) ∧ w = w' := by
  go_enter Try.func24, Try.ntmps24
  go_wp2_with fail
  go_loop [3, 4] (fun g i => g = .int .i64 (-1) ∧ i = .int .i64 0) (fun _ _ => 0)
  case atStart => exact ⟨rfl, rfl⟩
  case round =>
    obtain ⟨rfl, rfl⟩ := hrel
    go_wp2_with fail
    go_ret
    exact ⟨rfl, rfl⟩
theorem Rn.shape {base : Nat} {w : World} {B : Nat} {L : List Int} (h : Rn base w B L) : (L = [] ∧ ∃ ao cap, w.cell? ⟨B, 0, none⟩ = some (.slice ao 0 cap)) ∨
    ∃ b off cap, w.cell? ⟨B, 0, none⟩ = some (.slice (some ⟨b, off, none⟩) L.length cap) ∧ ∀ j, j < L.length → w.cell? ⟨b, off + j, none⟩ = some (.int .i64 (L.getD j 0)) := by
  obtain ⟨v, h1, h2⟩ := h.box
  have hc : w.cell? ⟨B, 0, none⟩ = some v := (cell_of_row _ B 0 _ _ (0, 0) h1).trans rfl
  rcases (Rd.of_own h2).1.cases with ⟨rfl, ao, cap, rfl, _⟩ | ⟨b, off, cap, rfl, _, _, _, _, h5⟩
  · exact Or.inl ⟨rfl, ao, cap, hc⟩
  · exact Or.inr ⟨b, off, cap, hc, h5⟩
theorem rgrt_any {base : Nat} {w : World} {B : Nat} {L : List Int} (h : Rn base w B L) : Calls Try.prog 24 #[.pointer (some ⟨B, 0, none⟩)] w fun e w' => e = .returned (.int .i64 (gr L)) ∧ w = w' := by
  rcases h.shape with ⟨rfl, ao, cap, hc⟩ | ⟨b, off, cap, hc, h5⟩
  · exact rgrt_nil hc
  · exact rgrt_some hc h5 h.len

theorem rfresh_bad {base : Nat} {w : World} {B : Nat} {L : List Int} (h : Rn base w B L) (n : Int) (hn : n < 0 ∨ 4611686018427387903 < n ∨ n ≤ gr L - 64) : Calls Try.prog 20 #[.pointer (some ⟨B, 0, none⟩), .int .i64 n] w fun e w' => e = .returned (.bool false) ∧ w = w' := by
  have hgr := rgrt_any h
  have hg := h.ok.gr
  clear h
  generalize gr L = G at *
  by_cases h0 : n < 0
  · clear hn
    go_enter Try.func20, Try.ntmps20
    go_wp2_with fail
    go_ret
    exact ⟨rfl, rfl⟩
  by_cases h1 : 4611686018427387903 < n
  · clear hn
    go_enter Try.func20, Try.ntmps20
    go_wp2_with fail
    go_ret
    exact ⟨rfl, rfl⟩
  have h2 : n ≤ G - 64 := by omega
  clear hn
  go_enter Try.func20, Try.ntmps20
  go_wp2_with (go_at_call 24; refine hgr.mono ?_; rintro e w' ⟨rfl, rfl⟩)
  go_ret
  exact ⟨rfl, rfl⟩
set_option maxHeartbeats 1000000 in
theorem rfresh_some {w : World} {B b off cap : Nat} {L : List Int} {G : Int} (hc : w.cell? ⟨B, 0, none⟩ = some (.slice (some ⟨b, off, none⟩) L.length cap)) (hcell : ∀ j, j < L.length → w.cell? ⟨b, off + j, none⟩ = some (.int .i64 (L.getD j 0))) (hl : L.length ≤ 200) (n : Int)
    (hgr : Calls Try.prog 24 #[.pointer (some ⟨B, 0, none⟩)] w fun e w' => e = .returned (.int .i64 G) ∧ w = w') (hg : -1 ≤ G ∧ G ≤ 4611686018427387903) (h0 : 0 ≤ n) (h1 : n ≤ 4611686018427387903) (h2 : G - 64 < n) :
    Calls Try.prog 20 #[.pointer (some ⟨B, 0, none⟩), .int .i64 n] w fun e w' => e = .returned (.bool (!L.contains n)) ∧ w = w' := by
  have HC := Lib.hid hcell
  clear hcell
  have hl' : (L.length : Int) ≤ 200 := by omega
  obtain ⟨c, hcc⟩ : ∃ c, (!L.contains n) = c := ⟨_, rfl⟩
  rw [hcc]
  have HCC := Lib.hid hcc
  clear hcc
  go_enter Try.func20, Try.ntmps20
  go_wp2_with (go_at_call 24; refine hgr.mono ?_; rintro e w' ⟨rfl, rfl⟩)
  go_loop [5] (fun i => ∃ k : Nat, k ≤ L.length ∧ i = .int .i64 k ∧ n ∉ L.take k) (fun i => L.length - (intOf i).toNat)
  case atStart => exact ⟨0, by omega, rfl, by simp⟩
  case round =>
    obtain ⟨k, hk, rfl, hnm⟩ := hrel
    have hk' : (k : Int) ≤ (L.length : Int) := by omega
    clear hgr
    by_cases hlt : k < L.length
    · have hlt' : (k : Int) < (L.length : Int) := by omega
      have hx := HC.out k hlt
      have ht : L.take (k + 1) = L.take k ++ [L.getD k 0] := by rw [List.take_succ_eq_append_getElem hlt]; simp [List.getD, hlt]
      have hmem : L.getD k 0 ∈ L := by
        have : L.getD k 0 = L[k] := by simp [hlt]
        rw [this]; exact List.getElem_mem hlt
      have HT := Lib.hid ht
      have HM := Lib.hid hmem
      have HN := Lib.hid hnm
      clear ht hmem hnm
      generalize L.getD k 0 = x at hx HT HM
      by_cases he : x = n
      · subst he
        have hcon : c = false := by rw [← HCC.out]; simp [HM.out]
        have ht : (x == x) = true := by simp
        subst hcon
        go_wp2_with fail
        go_ret
        exact ⟨rfl, rfl⟩
      · have ht : (x == n) = false := by rw [beq_eq_false_iff_ne]; exact he
        have HE := Lib.hid he
        clear he
        go_wp2_with fail
        go_round
        case rel => exact ⟨k + 1, by omega, by go_num, by rw [HT.out]; intro hm; rcases List.mem_append.1 hm with hm | hm; exact HN.out hm; exact HE.out (List.mem_singleton.1 hm).symm⟩
        case measure => simp [intOf]; omega
    · obtain rfl : k = L.length := by omega
      have hcon : c = true := by
        rw [List.take_of_length_le (Nat.le_refl _)] at hnm
        rw [← HCC.out]; simp [hnm]
      subst hcon
      clear hnm
      go_wp2_with fail
      go_ret
      exact ⟨rfl, rfl⟩
theorem rfresh_nil {w : World} {B cap : Nat} {ao : Option Addr} (hc : w.cell? ⟨B, 0, none⟩ = some (.slice ao 0 cap)) (n : Int) (h0 : 0 ≤ n) (h1 : n ≤ 4611686018427387903) :
    Calls Try.prog 20 #[.pointer (some ⟨B, 0, none⟩), .int .i64 n] w fun e w' => e = .returned (.bool true) ∧ w = w' := by
  have hgr := rgrt_nil hc
  go_enter Try.func20, Try.ntmps20
  go_wp2_with (go_at_call 24; refine hgr.mono ?_; rintro e w' ⟨rfl, rfl⟩)
  go_loop [5] (fun i => i = .int .i64 0) (fun _ => 0)
  case atStart => rfl
  case round =>
    subst hrel
    clear hgr
    go_wp2_with fail
    go_ret
    exact ⟨rfl, rfl⟩
theorem rfresh_any {base : Nat} {w : World} {B : Nat} {L : List Int} (h : Rn base w B L) (n : Int) : Calls Try.prog 20 #[.pointer (some ⟨B, 0, none⟩), .int .i64 n] w fun e w' => e = .returned (.bool (frB L n)) ∧ w = w' := by
  by_cases hn : n < 0 ∨ 4611686018427387903 < n ∨ n ≤ gr L - 64
  · have e : frB L n = false := by
      rw [Bool.eq_false_iff]; intro hc; rw [frB_iff] at hc; omega
    rw [e]
    exact rfresh_bad h n hn
  · have e : frB L n = !L.contains n := by
      rw [Bool.eq_iff_iff, frB_iff]
      simp
      exact ⟨fun h => h.2.2.2, fun h => ⟨by omega, by omega, by omega, h⟩⟩
    rw [e]
    rcases h.shape with ⟨rfl, ao, cap, hc⟩ | ⟨b, off, cap, hc, h5⟩
    · exact rfresh_nil hc n (by omega) (by omega)
    · exact rfresh_some hc h5 h.len n (rgrt_any h) h.ok.gr (by omega) (by omega) (by omega)
theorem rmark_no {base : Nat} {w : World} {B : Nat} {L : List Int} (h : Rn base w B L) (n : Int) (hf : frB L n = false) : Calls Try.prog 22 #[.pointer (some ⟨B, 0, none⟩), .int .i64 n] w fun e w' => e = .returned (.bool false) ∧ w = w' := by
  have hfr := rfresh_any h n
  rw [hf] at hfr
  clear h hf
  go_enter Try.func22, Try.ntmps22
  go_wp2_with (go_at_call 20; refine hfr.mono ?_; rintro e w' ⟨rfl, rfl⟩)
  go_ret
  exact ⟨rfl, rfl⟩
theorem rmark_box {w w5 : World} {B : Nat} {v : Value} {L : List Int} {o : Obj} (h1 : w.heap[B]? = some (.cells #[v] 36 (0, 0))) (hlt : B < w.heap.size) (h2 : w.ownsRow (B + 1) 3 1 v L.length (cs .i64 L)) (hg : (w.alloc o).grownBy w5 v.ownBlock) : w5.heap[B]? = some (.cells #[v] 36 (0, 0)) := by
  have hb : v.ownBlock ≠ some B := fun e => by have := (h2.lt B e).1; omega
  rw [hg.block B (by simp; omega) (Ne.symm hb), (below_alloc w o).block B hlt]
  exact h1
theorem own_shape {w : World} {base e size n : Nat} {v : Value} {xs : List Value} (h : w.ownsRow base e size v n xs) : ∃ ao m cap, v = .slice ao m cap := by
  rcases h.2 with ⟨rfl, _⟩ | ⟨g, cap, cur, rfl, _⟩
  · exact ⟨_, _, _, rfl⟩
  · exact ⟨_, _, _, rfl⟩
theorem rmark_end {base : Nat} {w w5 : World} {B : Nat} {v v5 : Value} {L : List Int} {n : Int} {o : Obj} (ho : Ok (L ++ [n])) (hlow : base ≤ B) (hlen : L.length < 200) (hbx : w5.heap[B]? = some (.cells #[v] 36 (0, 0)))
    (hown : w5.ownsRow (B + 1) 3 1 v5 (L.length + [n].length) (cs .i64 (L ++ [n]))) (hb : Below (B + 1) (w.alloc o) w5) (hlt : B < w.heap.size) : Rn base (w5.setCell ⟨B, 0, none⟩ v5) B (L ++ [n]) ∧ Below base w (w5.setCell ⟨B, 0, none⟩ v5) := by
  have e := heap_setCell_same w5 B 0 _ 36 v5 hbx
  refine ⟨⟨ho, by simp; omega, hlow, v5, by simpa using e, ?_⟩, ?_⟩
  · have := own_keep (w' := w5.setCell ⟨B, 0, none⟩ v5) hown fun g hg => Below.heap_setCell _ _ _ _ (by have := (hown.lt g hg).1; simp; omega)
    simpa using this
  · exact ((((Below.refl base w).alloc (by omega) o).trans (hb.mono (by omega)))).setCell (by simpa using hlow) _
theorem info3 : (Try.prog.info? 3).map (fun i => (i.zero, i.size, i.bytes)) = some (some (.int .i64 0), 1, 8) := by kernel_rfl
set_option maxHeartbeats 1000000 in
theorem rmark_yes {base : Nat} {w : World} {B : Nat} {L : List Int} (h : Rn base w B L) (n : Int) (hf : frB L n = true) (hlen : L.length < 200) : Calls Try.prog 22 #[.pointer (some ⟨B, 0, none⟩), .int .i64 n] w fun e w' => e = .returned (.bool true) ∧ Rn base w' B (L ++ [n]) ∧ Below base w w' := by
  have hfr := rfresh_any h n
  rw [hf] at hfr
  have HO : Hid (Ok (L ++ [n])) := Lib.hid (by have := h.ok.mk n; rw [mk_yes hf] at this; exact this)
  obtain ⟨v, h1, h2⟩ := h.box
  have c0 : w.cell? ⟨B, 0, none⟩ = some v := (cell_of_row _ B 0 _ _ (0, 0) h1).trans rfl
  have hlow := h.low
  have hlt := h.lt
  have H1 := Lib.hid h1
  clear hf h h1
  go_enter Try.func22, Try.ntmps22
  go_wp2_with (first | (go_at_call 20; refine hfr.mono ?_; rintro e w' ⟨rfl, rfl⟩) | (at_builtin; (refine wpList_append_ints .i64 3 8 (.tmp 13) (.tmp 15) 29 rfl rfl info3 Try.underlying29 (B + 1) v L.length L rfl (own_alloc h2 _) _ [n] rfl (Rd.lit .i64 3 w [n] (by simp)) (by simp <;> omega) (by simp <;> omega) (by simp <;> omega) ?_; intro v5 w5 hown5 hb5 hg5; obtain ⟨ao5, m5, cap5, rfl⟩ := own_shape hown5; have hbx := rmark_box H1.out hlt h2 hg5; have f5 : w5.frozen? ⟨B, 0, none⟩ = false := (by simp [World.frozen?, hbx]); have c5 : w5.cell? ⟨B, 0, none⟩ = some v := (cell_of_row _ B 0 _ _ (0, 0) hbx).trans rfl; have HX5 := Lib.hid hbx; clear hbx)))
  go_ret
  exact ⟨rfl, rmark_end HO.out hlow hlen HX5.out hown5 hb5 hlt⟩
theorem rmark_any {base : Nat} {w : World} {B : Nat} {L : List Int} (h : Rn base w B L) (n : Int) (hlen : L.length < 200) : Calls Try.prog 22 #[.pointer (some ⟨B, 0, none⟩), .int .i64 n] w fun e w' => e = .returned (.bool (frB L n)) ∧ Rn base w' B (mk L n) ∧ Below base w w' := by
  cases hf : frB L n with
  | false =>
    rw [mk_no hf]
    exact (rmark_no h n hf).mono fun e w' ⟨h1, h2⟩ => ⟨h1, h2 ▸ h, h2 ▸ Below.refl _ _⟩
  | true =>
    rw [mk_yes hf]
    exact rmark_yes h n hf hlen
end Go.Proofs.Ythlmodhglldajaa
