/- special: what is written is read as it was: the readers on the writers' bytes. -/
import Derived.Test.YtjdlmmbkppaenaaQBackW
import Derived.Test.YtjdlmmbkppaenaaQBackP
namespace Go.Proofs.Ytjdlmmbkppaenaa
open Go Go.RowKit

theorem list_reads {to fr vs : List Int} (h : listB to fr vs = true) {v : Value} {w : World} (hr : Rd w v (listW to fr vs)) (hp : Plain v) :
    (Calls Try.prog 16 #[v] w fun r w' => LR to fr vs (.int .i64 0) w r w') ∧ (Calls Try.prog 18 #[v] w fun r w' => RR 0 [] [] 0 0 (.int .i64 3) w r w') := by
  have hb := h
  simp only [listB, Bool.and_eq_true, decide_eq_true_eq] at hb
  obtain ⟨⟨⟨⟨l2, l3⟩, l4⟩, l5⟩, _⟩ := hb
  obtain ⟨zs, hz⟩ : ∃ zs, headBs 128 0 to fr ++ versBs vs = zs := ⟨_, rfl⟩
  have hw : listW to fr vs = zs := by unfold listW; rw [h, ← hz]; rfl
  rw [hw] at hr
  have hl : zs.length ≤ 40000 := by rw [← hz, List.length_append, headBs_len, versBs_len]; omega
  obtain ⟨c0, c1, c2, c3, c4, c5⟩ := head_cuts 128 0 to fr (versBs vs)
  rw [hz] at c0 c1 c2 c3 c4 c5
  obtain ⟨lv, lb⟩ := list_back h zs hz.symm (7 + to.length + fr.length) rfl
  have p1 := preadlist_any hr hp hl 128 to.length fr.length c0 c2 (by rw [Int.toNat_natCast]; exact c4) (7 + to.length + fr.length) (by rw [Int.toNat_natCast, Int.toNat_natCast])
  have p2 := preadretry_any hr hp hl 128 to.length fr.length c0 c2 (by rw [Int.toNat_natCast]; exact c4) (7 + to.length + fr.length) (by rw [Int.toNat_natCast, Int.toNat_natCast])
  rw [Int.toNat_natCast, Int.toNat_natCast, c3, c5, lv, lb] at p1
  have hp : ∀ ver tok tag to fr, prB zs (7 + to.length + fr.length) 128 ver to fr tok tag = false := fun _ _ _ _ _ => by unfold prB; simp
  rw [Int.toNat_natCast, Int.toNat_natCast, c3, c5, hp] at p2
  exact ⟨p1.mono fun r w' h => lr_p h, p2.mono fun r w' h => rr_p h⟩
theorem retry_reads {ver tok tag : Int} {to fr : List Int} (h : retryB ver to fr tok tag = true) {v : Value} {w : World} (hr : Rd w v (retryW ver to fr tok tag)) (hp : Plain v) :
    (Calls Try.prog 18 #[v] w fun r w' => RR ver to fr tok tag (.int .i64 0) w r w') ∧ (Calls Try.prog 16 #[v] w fun r w' => LR [] [] [] (.int .i64 3) w r w') := by
  have hb := h
  simp only [retryB, Bool.and_eq_true, decide_eq_true_eq] at hb
  obtain ⟨⟨⟨_, l2, l3⟩, t1⟩, t2⟩ := hb
  obtain ⟨zs, hz⟩ : ∃ zs, headBs 240 ver to fr ++ numB tok ++ numB tag = zs := ⟨_, rfl⟩
  have hw : retryW ver to fr tok tag = zs := by unfold retryW; rw [h, ← hz]; rfl
  rw [hw] at hr
  have hl : zs.length ≤ 40000 := by rw [← hz, List.length_append, List.length_append, headBs_len, numB_len, numB_len, t1, t2]; simp; omega
  obtain ⟨rv, rt, rg, rb⟩ := retry_back h zs hz.symm (7 + to.length + fr.length) rfl
  rw [List.append_assoc] at hz
  obtain ⟨c0, c1, c2, c3, c4, c5⟩ := head_cuts 240 ver to fr (numB tok ++ numB tag)
  rw [hz] at c0 c1 c2 c3 c4 c5
  have p1 := preadretry_any hr hp hl 240 to.length fr.length c0 c2 (by rw [Int.toNat_natCast]; exact c4) (7 + to.length + fr.length) (by rw [Int.toNat_natCast, Int.toNat_natCast])
  have p2 := preadlist_any hr hp hl 240 to.length fr.length c0 c2 (by rw [Int.toNat_natCast]; exact c4) (7 + to.length + fr.length) (by rw [Int.toNat_natCast, Int.toNat_natCast])
  rw [Int.toNat_natCast, Int.toNat_natCast, c3, c5, rv, rt, rg, rb] at p1
  have hp : ∀ ver to fr, plB zs (7 + to.length + fr.length) 240 ver to fr = false := fun _ _ _ => by unfold plB; simp
  rw [Int.toNat_natCast, Int.toNat_natCast, c3, c5, hp] at p2
  exact ⟨p1.mono fun r w' h => rr_p h, p2.mono fun r w' h => lr_p h⟩
theorem listW_pos {to fr vs : List Int} (h : listB to fr vs = true) : 0 < (listW to fr vs).length := by
  unfold listW
  rw [if_pos h, List.length_append, headBs_len]
  omega
theorem listW_no {to fr vs : List Int} (h : listB to fr vs = false) : listW to fr vs = [] := by unfold listW; rw [h]; rfl
theorem retryW_pos {ver tok tag : Int} {to fr : List Int} (h : retryB ver to fr tok tag = true) : 0 < (retryW ver to fr tok tag).length := by
  unfold retryW
  rw [if_pos h, List.length_append, List.length_append, headBs_len]
  omega
theorem retryW_no {ver tok tag : Int} {to fr : List Int} (h : retryB ver to fr tok tag = false) : retryW ver to fr tok tag = [] := by unfold retryW; rw [h]; rfl
end Go.Proofs.Ytjdlmmbkppaenaa
