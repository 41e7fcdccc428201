/- special: what is written is read as it was: the plain side. -/
import Derived.Test.YtjdlmmbkppaenaaQEqL
import Derived.Test.YtjdlmmbkppaenaaQPRetry
namespace Go.Proofs.Ytjdlmmbkppaenaa

theorem cut_mid {zs A B C : List Int} {t n : Nat} (h : zs = A ++ (B ++ C)) (ht : A.length = t) (hn : B.length = n) : cutZ zs t n = B := by
  subst h ht hn
  simp [cutZ]
theorem say4_big {v : Int} (h : verB v = true) : say4 (big v 4) = v := by
  simp only [verB, Bool.and_eq_true, decide_eq_true_eq] at h
  simp only [big, say4]
  omega
theorem say4_zero : say4 (big 0 4) = 0 := by decide
theorem numd_num {t : Int} (h : termB t = true) : numd (numB t) = t := by
  simp only [termB, Bool.and_eq_true, decide_eq_true_eq] at h
  rw [numB_yes h]
  have hs : say4 [0, t / 65536, t / 256 % 256, t % 256] = t := by
    simp only [say4]
    omega
  unfold numd
  rw [hs, if_pos ⟨rfl, h⟩]
theorem vers_back : ∀ (vs : List Int) (A : List Int) (e : Nat), A.length = e → vs.all verB = true → versAt (A ++ versBs vs) e vs.length = vs
  | [], _, _, _, _ => rfl
  | v :: r, A, e, hA, hv => by
    simp only [List.all_cons, Bool.and_eq_true] at hv
    have h1 : cutZ (A ++ versBs (v :: r)) (e + 4 * 0) 4 = big v 4 := cut_mid rfl hA (big_len v 4)
    have h2 := vers_back r (A ++ big v 4) (e + 4) (by rw [List.length_append, big_len, hA]) hv.2
    unfold versAt at h2 ⊢
    rw [List.length_cons, List.range_succ_eq_map, List.map_cons, h1, say4_big hv.1, List.map_map]
    congr 1
    rw [List.append_assoc] at h2
    refine Eq.trans (List.map_congr_left fun i _ => ?_) h2
    show say4 (cutZ (A ++ (big v 4 ++ versBs r)) (e + 4 * (i + 1)) 4) = _
    rw [show e + 4 * (i + 1) = e + 4 + 4 * i by omega]
/-- What a head is cut into. -/
theorem head_cuts (mk ver : Int) (to fr R : List Int) :
    cutZ (headBs mk ver to fr ++ R) 0 1 = [mk] ∧ cutZ (headBs mk ver to fr ++ R) 1 4 = big ver 4 ∧ cutZ (headBs mk ver to fr ++ R) 5 1 = [(to.length : Int)] ∧ cutZ (headBs mk ver to fr ++ R) 6 to.length = to ∧
    cutZ (headBs mk ver to fr ++ R) (6 + to.length) 1 = [(fr.length : Int)] ∧ cutZ (headBs mk ver to fr ++ R) (7 + to.length) fr.length = fr := by
  refine ⟨cut_mid (A := []) (C := big ver 4 ++ [(to.length : Int)] ++ to ++ [(fr.length : Int)] ++ fr ++ R) (by simp [headBs]) rfl rfl,
    cut_mid (A := [mk]) (C := [(to.length : Int)] ++ to ++ [(fr.length : Int)] ++ fr ++ R) (by simp [headBs]) rfl (big_len _ _),
    cut_mid (A := [mk] ++ big ver 4) (C := to ++ [(fr.length : Int)] ++ fr ++ R) (by simp [headBs]) (by simp [big_len]) rfl,
    cut_mid (A := [mk] ++ big ver 4 ++ [(to.length : Int)]) (C := [(fr.length : Int)] ++ fr ++ R) (by simp [headBs]) (by simp [big_len]) rfl,
    cut_mid (A := [mk] ++ big ver 4 ++ [(to.length : Int)] ++ to) (C := fr ++ R) (by simp [headBs]) (by simp [big_len]; omega) rfl,
    cut_mid (A := [mk] ++ big ver 4 ++ [(to.length : Int)] ++ to ++ [(fr.length : Int)]) (C := R) (by simp [headBs]) (by simp [big_len]; omega) rfl⟩
theorem list_back {to fr vs : List Int} (h : listB to fr vs = true) (zs : List Int) (hz : zs = headBs 128 0 to fr ++ versBs vs) (e : Nat) (he : 7 + to.length + fr.length = e) :
    versAt zs e (cuts zs e) = vs ∧ plB zs e 128 (say4 (cutZ zs 1 4)) to fr = true := by
  have hb := h
  simp only [listB, Bool.and_eq_true, decide_eq_true_eq] at hb
  obtain ⟨⟨⟨_, l4⟩, l5⟩, hv⟩ := hb
  have hlen : zs.length = e + 4 * vs.length := by rw [hz, List.length_append, headBs_len, versBs_len, he]
  have hc : cuts zs e = vs.length := by unfold cuts; omega
  have hvs : versAt zs e (cuts zs e) = vs := by
    rw [hc, hz]
    exact vers_back vs _ e (by rw [headBs_len, he]) hv
  refine ⟨hvs, ?_⟩
  unfold plB
  rw [hvs, h, decide_eq_true (by rw [hc, hlen]), hz, (head_cuts 128 0 to fr (versBs vs)).2.1, say4_zero]
  rfl
theorem retry_back {ver tok tag : Int} {to fr : List Int} (h : retryB ver to fr tok tag = true) (zs : List Int) (hz : zs = headBs 240 ver to fr ++ numB tok ++ numB tag) (e : Nat) (he : 7 + to.length + fr.length = e) :
    say4 (cutZ zs 1 4) = ver ∧ numd (cutZ zs e 4) = tok ∧ numd (cutZ zs (e + 4) 4) = tag ∧ prB zs e 240 ver to fr tok tag = true := by
  have hb := h
  simp only [retryB, Bool.and_eq_true] at hb
  obtain ⟨⟨⟨hv, _⟩, t1⟩, t2⟩ := hb
  have n1 : (numB tok).length = 4 := by rw [numB_len, t1]; rfl
  have n2 : (numB tag).length = 4 := by rw [numB_len, t2]; rfl
  have hlen : zs.length = e + 8 := by rw [hz, List.length_append, List.length_append, headBs_len, n1, n2, he]
  rw [List.append_assoc] at hz
  refine ⟨?_, ?_, ?_, ?_⟩
  · rw [hz, (head_cuts 240 ver to fr _).2.1, say4_big hv]
  · rw [cut_mid hz (by rw [headBs_len, he]) n1, numd_num t1]
  · rw [cut_mid (A := headBs 240 ver to fr ++ numB tok) (B := numB tag) (C := []) (by rw [hz]; simp) (by rw [List.length_append, headBs_len, he, n1]) n2, numd_num t2]
  · unfold prB
    rw [h, decide_eq_true hlen]
    rfl
end Go.Proofs.Ytjdlmmbkppaenaa
