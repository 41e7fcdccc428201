/- The document's set in memory: Add, whatever is there. -/
import Derived.Test.YtnfednhleedljaaSpRAdd
namespace Go.Proofs.Ytnfednhleedljaa
open Go Go.RowKit

set_option maxHeartbeats 2000000 in
theorem radd_first {lo : Nat} {w : World} {B : Nat} {s : Set0} (h : Rm lo w B (nums s.1) s.2) (n : Int) (hb : okB s n = true) (hlo : lo ≤ w.heap.size) (he : s.1 = []) : Calls Try.prog 8 #[.pointer (some ⟨B, 0, none⟩), .int .i64 n] w fun e w' => e = .returned (.bool true) ∧ RAdded lo w B s n w' := by
  have hh := rhas_any h n
  have hb' := okB_iff.1 hb
  rw [he] at hh
  obtain ⟨hc1, hfz, hsh⟩ := h.shape
  obtain ⟨v0, hbx, _⟩ := h.box
  rcases hsh with ⟨_, hc⟩ | ⟨_, _, _, _, h0, _⟩
  case inr => rw [he] at h0; simp [nums] at h0
  have HBX := Lib.hid hbx
  have hBw := h.lt
  have hn0 : ¬ n < 0 := by omega
  have hn1 : ¬ 4611686018427387903 < n := by omega
  have hn2 : ¬ n < s.2 := by omega
  have hBlo := h.low
  have HE := Lib.hid he
  have HB := Lib.hid hb
  have hfz0 := hfz 0
  have hcon : (nums ([] : List Sp)).contains n = false := rfl
  rw [hcon] at hh
  have hnn : ∀ x ∈ [n], 0 ≤ x ∧ x ≤ 4611686018427387903 := fun x hx => by simp at hx; omega
  have hsp : spansOf [n] = [(n, n)] := rfl
  have HNN := Lib.hid hnn
  have HSP := Lib.hid hsp
  clear hb' hb h hbx hfz he hcon hnn hsp
  go_enter Try.func8, Try.ntmps8
  go_wp2_with (go_at_call 14; refine hh.mono ?_; rintro e w' ⟨rfl, rfl⟩)
  clear hh
  go_loop [5] (fun i => i = .int .i64 0) (fun _ => 0)
  case atStart => rfl
  case round =>
    subst hrel
    go_wp2_with (first
      | (at_builtin; refine wpList_append_ints .i64 3 8 (.tmp 49) (.tmp 55) 22 rfl rfl info3 Try.underlying22 w.heap.size _ 0 [] rfl (own_zero1 w) _ [] rfl (Rd.nil _ _) (by simp) (by simp) (by simp) ?_; intro v1 w1 hown1 hb1 _; have hown1 := Lib.hid hown1; have hb1 := Lib.hid ((below_alloc w _).trans (hb1.mono (Nat.le_refl _))); have hz1 := hb1.out.size; obtain ⟨a1, m1, c1', rfl⟩ := own_shape hown1.out; have hcB1 : w1.cell? ⟨B, 0, none⟩ = _ := (hb1.out.cell (p := ⟨B, 0, none⟩) hBw).trans hc)
      | (at_builtin; refine wpList_append_ints .i64 3 8 (.tmp 56) (.tmp 58) 22 rfl rfl info3 Try.underlying22 w.heap.size _ _ _ rfl (own_alloc hown1.out _) _ [n] rfl (Rd.lit .i64 3 w1 [n] (by simp)) (by simp) (by simp) (by simp; omega) ?_; intro v2 w2 hown2 hb2 _; have hown2 := Lib.hid hown2; have hb2 := Lib.hid ((hb1.out.alloc hz1 _).trans hb2); have hz2 := hb2.out.size; obtain ⟨a2, m2, c2', rfl⟩ := own_shape hown2.out; have hcB2 : w2.cell? ⟨B, 0, none⟩ = _ := (hb2.out.cell (p := ⟨B, 0, none⟩) hBw).trans hc)
      | (at_builtin; refine wpList_append_ints .i64 3 8 (.tmp 61) (.tmp 67) 22 rfl rfl info3 Try.underlying22 w.heap.size _ _ _ rfl hown2.out _ [] rfl (Rd.nil _ _) (by simp) (by simp) hz2 ?_; intro v3 w3 hown3 hb3 _; have hst := Lib.hid (rstore HBX.out (hb2.out.trans hb3) hlo hBlo (L := [n]) (by simp) HNN.out (by simp) hown3); obtain ⟨a3, m3, c3', rfl⟩ := own_shape hown3; have hB3 := Lib.hid (hb2.out.trans hb3); have hfz3 : w3.frozen? ⟨B, 0, none⟩ = false := (hB3.out.frozen (p := ⟨B, 0, none⟩) hBw).trans hfz0; have hcB3 : w3.cell? ⟨B, 0, none⟩ = _ := (hB3.out.cell (p := ⟨B, 0, none⟩) hBw).trans hc)
      | (go_at_call 11; refine (rspans_any hst.out.1).mono ?_; rintro e w4 ⟨v4, rfl, ho4, hb4⟩; rw [HSP.out] at ho4; obtain ⟨g, cp, rfl, hg, hgl, hfg, hat⟩ := rown_open ho4 (by simp); have h4 := Lib.hid hb4; clear hat ho4))
    go_ret
    refine ⟨rfl, ?_⟩
    have e : addS s n = ([(n, n)], s.2) := by
      unfold addS
      rw [if_pos HB.out, HE.out]
      rfl
    unfold RAdded
    rw [e]
    have en : nums [(n, n)] = [n] := by simp [nums, sg]
    rw [en]
    exact ⟨hst.out.1.below h4.out, hst.out.2.1.trans (But.of_below h4.out)⟩
theorem radd_any {lo : Nat} {w : World} {B : Nat} {s : Set0} (h : Rm lo w B (nums s.1) s.2) (hok : OkS s) (n : Int) (hlo : lo ≤ w.heap.size) (hl : (nums s.1).length ≤ 200) : Calls Try.prog 8 #[.pointer (some ⟨B, 0, none⟩), .int .i64 n] w fun e w' => e = .returned (.bool (okB s n)) ∧ RAdded lo w B s n w' := by
  cases hb : okB s n with
  | false =>
    refine (radd_no h hok n hb).mono fun e w' ⟨he, hw⟩ => ?_
    subst hw
    refine ⟨he, ?_⟩
    have e : addS s n = s := by unfold addS; rw [hb]; rfl
    unfold RAdded
    rw [e]
    exact ⟨h, But.refl _ _⟩
  | true =>
    by_cases he : s.1 = []
    · exact radd_first h n hb hlo he
    · refine radd_some h hok n hb hlo hl fun e => ?_
      obtain ⟨p, hp⟩ := List.exists_mem_of_ne_nil _ he
      have := hok.1.2 p hp
      have hm : p.1 ∈ nums s.1 := nums_mem.2 ⟨p, hp, Int.le_refl _, this.2.1⟩
      rw [e] at hm; cases hm
theorem nums_len {s : Set0} (hok : OkS s) (n : Int) : (nums (addS s n).1).length ≤ (nums s.1).length + 1 := by
  unfold addS
  cases hb : okB s n with
  | false => simp
  | true =>
    rw [if_pos rfl]
    have hm := ok_mid hok hb
    have hb' := okB_iff.1 hb
    have hnm : n ∉ nums s.1 := fun e => by have := (hasB_iff hok.1).2 (nums_mem.1 e); rw [hb'.2.2.2] at this; cases this
    have hi := nums_inc hok.1
    have key : ∀ (L : List Int), L.Pairwise (· < ·) → (∀ x ∈ L.take (L.filter (fun x => decide (x ≤ n))).length, x ≤ n) ∧ ∀ x ∈ L.drop (L.filter (fun x => decide (x ≤ n))).length, n < x := by
      intro L
      induction L with
      | nil => intro _; simp
      | cons a L ih =>
        intro hp
        have hp' := List.pairwise_cons.1 hp
        by_cases ha : a ≤ n
        · rw [List.filter_cons_of_pos (by simpa using ha)]
          simp only [List.length_cons, List.take_succ_cons, List.drop_succ_cons]
          refine ⟨fun x hx => ?_, (ih hp'.2).2⟩
          rcases List.mem_cons.1 hx with rfl | hx
          · exact ha
          · exact (ih hp'.2).1 x hx
        · have e : (a :: L).filter (fun x => decide (x ≤ n)) = [] := by
            rw [List.filter_eq_nil_iff]
            intro x hx
            rcases List.mem_cons.1 hx with rfl | hx
            · simpa using ha
            · have := hp'.1 x hx; simp; omega
          rw [e]
          refine ⟨fun x hx => by simp at hx, fun x hx => ?_⟩
          simp only [List.length_nil, List.drop_zero] at hx
          rcases List.mem_cons.1 hx with rfl | hx
          · omega
          · have := hp'.1 x hx; omega
    have hk := key _ hi
    have e := nums_mid hok.1 ⟨hm.1, hm.2.1⟩ hnm hk.1 hk.2
    have hlen : (nums (midS s.1 n)).length = (nums s.1).length + 1 := by
      rw [← e]
      simp only [List.length_append, List.length_take, List.length_drop, List.length_cons, List.length_nil]
      omega
    unfold keepS
    split
    · rename_i h
      have h33 : (midS s.1 n).length = 33 := by have := hm.2.2.1; have := hok.2.1; omega
      have hd := nums_drop hm.1 h33 rfl
      show (nums ((midS s.1 n).take 32)).length ≤ _
      rw [hd.1, List.length_drop]
      omega
    · show (nums (midS s.1 n)).length ≤ _
      omega
end Go.Proofs.Ytnfednhleedljaa
