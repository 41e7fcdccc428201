/- Numbers cut short, as plain sums: what the program tells is what the document tells. -/
import Derived.Test.YthlmodhglldajaaProg
namespace Go.Proofs.Ythlmodhglldajaa
def tn (w : Int) : Int := if w = 1 then 256 else if w = 2 then 65536 else if w = 3 then 16777216 else 4294967296
def isNum (n : Int) : Bool := decide (0 ≤ n) && decide (n ≤ 4611686018427387903)
def isWid (w : Int) : Bool := decide (1 ≤ w) && decide (w ≤ 4)
def widOk (n a : Int) : Bool := isNum n && decide (-1 ≤ a) && decide (a < n)
def widN (n a : Int) : Int := if widOk n a = false then 0 else if n - a ≤ 128 then 1 else if n - a ≤ 32768 then 2 else if n - a ≤ 8388608 then 3 else if n - a ≤ 2147483648 then 4 else 0
def cutOk (n w : Int) : Bool := isNum n && isWid w
def cutN (n w : Int) : Int := if cutOk n w then n % tn w else 0
def fullOk (g c w : Int) : Bool := decide (-1 ≤ g) && decide (g ≤ 4611686018427387903) && isWid w && decide (0 ≤ c) && decide (c < tn w)
def pick (e b T : Int) : Int := if 4611686018427387903 < b then b - T else if b < 0 ∨ b + T - e ≤ e - b ∧ b + T ≤ 4611686018427387903 then b + T else b
def near (e c T : Int) : Int := pick e (e - (e - c) % T) T
def fullN (g c w : Int) : Int := if fullOk g c w then near (g + 1) c (tn w) else -1
/-- How far two numbers are from each other. -/
def dst (a b : Int) : Int := if b - a ≤ a - b then a - b else b - a
/-- The program's way: the best of three, one behind the other. -/
def best (e m n : Int) : Int := if isNum n = true ∧ (m = -1 ∨ dst n e < dst m e) then n else m
def bests (e m T : Int) : Int := best e (best e (best e (-1) (m + T)) m) (m - T)

theorem tn_cases {w : Int} (h : isWid w = true) : (w = 1 ∧ tn w = 256) ∨ (w = 2 ∧ tn w = 65536) ∨ (w = 3 ∧ tn w = 16777216) ∨ (w = 4 ∧ tn w = 4294967296) := by
  unfold isWid at h
  simp only [Bool.and_eq_true, decide_eq_true_eq] at h
  have : w = 1 ∨ w = 2 ∨ w = 3 ∨ w = 4 := by omega
  rcases this with rfl | rfl | rfl | rfl <;> decide
theorem isNum_iff (n : Int) : isNum n = true ↔ 0 ≤ n ∧ n ≤ 4611686018427387903 := by unfold isNum; simp
theorem dst_le {a b : Int} (h : a ≤ b) : dst a b = b - a := by unfold dst; split <;> omega
theorem dst_ge {a b : Int} (h : b ≤ a) : dst a b = a - b := by unfold dst; split <;> omega
theorem best_yes {e m n : Int} (h1 : 0 ≤ n ∧ n ≤ 4611686018427387903) (h2 : m = -1 ∨ dst n e < dst m e) : best e m n = n := if_pos ⟨(isNum_iff n).2 h1, h2⟩
theorem best_no {e m n : Int} (h : n < 0 ∨ 4611686018427387903 < n ∨ m ≠ -1 ∧ dst m e ≤ dst n e) : best e m n = m := by
  refine if_neg fun ⟨h1, h2⟩ => ?_
  rw [isNum_iff] at h1
  omega
/-- What stands for the numbers' places: e = s + r, s a multiple. -/
def Pl (e c T s r d : Int) : Prop := e = s + r ∧ 0 ≤ r ∧ r < T ∧ (c ≤ r ∧ d = r - c ∨ r < c ∧ d = r - c + T) ∧ (s = 0 ∨ T ≤ s) ∧ (s = 4611686018427387904 ∧ r = 0 ∨ s + T ≤ 4611686018427387904)
theorem pl_at {e c T : Int} (hT : T = 256 ∨ T = 65536 ∨ T = 16777216 ∨ T = 4294967296) (he : 0 ≤ e) (h2 : e ≤ 4611686018427387904) (hc : 0 ≤ c) (hcT : c < T) : Pl e c T (e - e % T) (e % T) ((e - c) % T) := by
  unfold Pl
  rcases hT with rfl | rfl | rfl | rfl
  all_goals omega
theorem bests_pick {e c T s r d : Int} (h : Pl e c T s r d) (hT : 256 ≤ T) (hT2 : T ≤ 4294967296) (h0 : 0 ≤ e) (hc : 0 ≤ c) (hcT : c < T) : bests e (s + c) T = pick e (e - d) T := by
  obtain ⟨rfl, h4, h5, h7, h8, h9⟩ := h
  unfold bests pick
  rcases h7 with ⟨h7, rfl⟩ | ⟨h7, rfl⟩
  · rcases h9 with ⟨rfl, rfl⟩ | h9
    · obtain rfl : c = 0 := by omega
      rw [best_no (m := -1) (n := 4611686018427387904 + 0 + T) (by omega), best_no (m := -1) (n := 4611686018427387904 + 0) (by omega), best_yes (by omega) (Or.inl rfl), if_pos (by omega)]
      omega
    · rw [if_neg (by omega : ¬ 4611686018427387903 < s + r - (r - c))]
      by_cases h1 : s + c + T ≤ 4611686018427387903
      · rw [best_yes (m := -1) (by omega) (Or.inl rfl)]
        by_cases h2 : s + c + T - (s + r) ≤ (s + r) - (s + c)
        · rw [best_no (m := s + c + T) (n := s + c) (by right; right; rw [dst_ge (by omega), dst_le (by omega)]; omega), best_no (by right; right; rw [dst_ge (by omega), dst_le (by omega)]; omega), if_pos (by omega)]
          omega
        · rw [best_yes (m := s + c + T) (n := s + c) (by omega) (by right; rw [dst_le (by omega), dst_ge (by omega)]; omega), best_no (by right; right; rw [dst_le (by omega), dst_le (by omega)]; omega), if_neg (by omega)]
          omega
      · rw [best_no (m := -1) (by omega), best_yes (m := -1) (by omega) (Or.inl rfl), best_no (by right; right; rw [dst_le (by omega), dst_le (by omega)]; omega), if_neg (by omega)]
        omega
  · rcases h9 with ⟨rfl, rfl⟩ | h9
    · rw [best_no (m := -1) (n := 4611686018427387904 + c + T) (by omega), best_no (m := -1) (n := 4611686018427387904 + c) (by omega), best_yes (by omega) (Or.inl rfl), if_neg (by omega), if_neg (by omega)]
      omega
    · rw [if_neg (by omega : ¬ 4611686018427387903 < s + r - (r - c + T))]
      have h3 : best (s + r) (best (s + r) (-1) (s + c + T)) (s + c) = s + c := by
        by_cases h1 : s + c + T ≤ 4611686018427387903
        · rw [best_yes (m := -1) (by omega) (Or.inl rfl), best_yes (by omega) (by right; rw [dst_ge (by omega), dst_ge (by omega)]; omega)]
        · rw [best_no (m := -1) (by omega), best_yes (by omega) (Or.inl rfl)]
      rw [h3]
      by_cases h4 : s + c - T < 0
      · rw [best_no (by omega), if_pos (by omega)]
        omega
      · by_cases h2 : s + c - (s + r) ≤ (s + r) - (s + c - T)
        · rw [best_no (by right; right; rw [dst_ge (by omega), dst_le (by omega)]; omega), if_pos (by omega)]
          omega
        · rw [best_yes (by omega) (by right; rw [dst_le (by omega), dst_ge (by omega)]; omega), if_neg (by omega)]
          omega
theorem bests_near {e c T : Int} (hT : T = 256 ∨ T = 65536 ∨ T = 16777216 ∨ T = 4294967296) (he : 0 ≤ e) (h2 : e ≤ 4611686018427387904) (hc : 0 ≤ c) (hcT : c < T) : bests e (e - e % T + c) T = near e c T := by
  exact bests_pick (pl_at hT he h2 hc hcT) (by omega) (by omega) he hc hcT
end Go.Proofs.Ythlmodhglldajaa
