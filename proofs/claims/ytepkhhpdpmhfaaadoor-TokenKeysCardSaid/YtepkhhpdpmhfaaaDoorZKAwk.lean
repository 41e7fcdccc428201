/- What was minted is looked at as it was; the chapter's example. -/
import Derived.Test.YtepkhhpdpmhfaaaDoorZKCheck
import Derived.Test.YtepkhhpdpmhfaaaDoorZKOf
namespace Go.Proofs.YtepkhhpdpmhfaaaDoor
open Go Go.RowKit

variable {w0 w : World} {tb mb n : Nat} {rs : List (Nat × Obj)}
theorem sbytes_bstr {zs : List Int} (h : Byt zs) : T.sbytes (T.bstr zs) = zs := bstr_inj (sbytes_byt _) h (T.bstr_sbytes _)
theorem sz_num {a : Int} (h : (sz a == 0) = false) : 0 ≤ a ∧ a < 4611686018427387904 := by
  rcases sz_cases a with ⟨h0, _⟩ | ⟨h0, h1, _⟩
  · rw [h0] at h; simp at h
  · exact ⟨h0, h1⟩
theorem tokOk_num {a t : Int} {k : Nat} (h : tokOk a t k = true) : (0 ≤ a ∧ a < 4611686018427387904) ∧ (0 ≤ t ∧ t < 4611686018427387904) ∧ k ≤ 20 := by
  unfold tokOk at h
  simp only [Bool.and_eq_true, Bool.not_eq_true', decide_eq_false_iff_not] at h
  exact ⟨sz_num h.1.1, sz_num h.1.2, by omega⟩
theorem look_tok {N : List T.Nd} (h : T.Gd w0 w tb mb N n rs) {k c a t : Int} {l : Bool} {nm : List Int} (hm : T.IsTok N c k (T.bstr (tokB l a t nm))) (hok : tokOk a t nm.length = true) (hb : Byt nm) :
    Calls Tryd.prog 10 #[.pointer (some ⟨tb, 0, none⟩), .int .i64 k, .int .i64 c] w fun e w' => TkP w' e 14 (some (l, a, t, nm)) ∧ T.Gd w0 w' tb mb N n rs ∧ Below w.heap.size w w' := by
  obtain ⟨x, h1, h2⟩ := hm
  obtain ⟨ha, ht, hn⟩ := tokOk_num hok
  have hl := tokB_len l a t nm
  have hby := tokB_byt l a t hb
  have := look_yes h h2 h1 (by rw [T.bstr_size]; omega)
  rw [sbytes_bstr hby, tok_eq hby, tok_back l ha ht hn] at this
  exact this
set_option maxRecDepth 20000 in
set_option maxHeartbeats 2000000 in
theorem awake16_any {w : World} (ht : Tab w) (hw : 1 < w.heap.size) : Calls Tryd.prog 9 #[] w fun e w' => e = .returned (.bool true) ∧ Below w.heap.size w w' := by
  have HT := Lib.hid (And.intro ht hw)
  clear ht hw
  go_enter Tryd.func9, Tryd.ntmps9
  go_wp2_with fail
  refine (T.St.new w).mono ?_
  rintro e w1 ⟨tb, mb, rfl, s1⟩
  have g1 : T.Gd w w1 tb mb [] 0 [] := ⟨T.Sg.of_st s1, T.good_nil, Nat.le_refl _⟩
  have c1 := g1.secretG (by omega)
  clear s1 g1
  go_wp2_with fail
  refine c1.mono ?_
  rintro e w2 ⟨N2, k, rfl, g2, p2, f2, -⟩
  have c2 := mint_yes (l := false) (a := 5) (t := 10) (nm := []) (ao := none) (cap := 0) g2 (by decide) f2.2 (Rd.nil _) HT.out.1 HT.out.2 (by omega)
  simp only [List.length_nil] at c2
  have H2 := Lib.hid f2
  clear c1 g2 p2 f2
  go_wp2_with fail
  refine c2.mono ?_
  rintro e w3 ⟨N3, c, rfl, g3, p3, f3⟩
  have hc : (c != 0) = true := by
    obtain ⟨x, _, hx⟩ := f3
    have := hx.rng
    rw [bne_iff_ne]
    omega
  have c3 := check_any g3 (r := some (false, 5, 10, [])) (fun w1 g => look_tok g f3 (by decide) Byt.nil) 5 (now := 13) (life := 3) (by omega) (fun x hx => by cases hx; decide)
  rw [show chk (some (false, 5, 10, [])) 5 13 3 = (0, some (false, 5, 10, [])) by decide] at c3
  have H3 := Lib.hid f3
  clear c2 g3 p3 f3
  go_wp2_with fail
  refine c3.mono ?_
  rintro e w4 ⟨⟨v4, rfl, r4⟩, g4, b4⟩
  obtain ⟨a4, p4, rfl⟩ := r4.shape
  have g5 := fun o => g4.keep (below_alloc w4 o)
  have c5 := fun o => check_any (g5 o) (r := some (false, 5, 10, [])) (fun w1 g => look_tok g H3.out (by decide) Byt.nil) 5 (now := 14) (life := 3) (by omega) (fun x hx => by cases hx; decide)
  rw [show chk (some (false, 5, 10, [])) 5 14 3 = (9, none) by decide] at c5
  clear c3 b4 g4 g5 r4
  go_wp2_with fail
  refine (c5 _).mono ?_
  rintro e w6 ⟨rfl, g6, _⟩
  have H6 := Lib.hid g6.st.bel
  clear c5 g6
  go_wp2_with fail
  go_ret
  exact ⟨rfl, H6.out.trans ((below_alloc w6 _).mono H6.out.size)⟩
#print axioms awake16_any
end Go.Proofs.YtepkhhpdpmhfaaaDoor
