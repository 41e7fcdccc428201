/- hello.Right, of a message: whether it is right. -/
import Derived.Test.YtefcjggmlhoebaaDoorHR1
import Derived.Laws.BitsLemmas
namespace Go.Proofs.YtefcjggmlhoebaaDoor
open Go Go.RowKit

/-- Is it right? (ok: are its params right?) -/
def rightB (ok : Bool) (x : Hm) : Bool :=
  if x.k = 1 then (tmD x.r && tmD x.s && tickB x.t x.m && ok) && bareB 0 0 0 0 false 0 (bstr x.n) x.v x.l
  else if x.k = 2 then (tmD x.r && tmD x.s && (decide (0 < x.v) && decide (x.v < 4294967296))) && bareB 0 0 x.t x.m false x.p.length (bstr x.n) 0 x.l
  else if x.k = 4 then (tmD x.t && decide (0 < sz x.l)) && bareB x.r x.s 0 x.m x.f x.p.length (bstr x.n) x.v 0
  else if x.k = 8 then ok && bareB x.r x.s x.t x.m false 0 (bstr x.n) x.v x.l
  else if x.k = 11 then (decide (1 ≤ (bstr x.n).size) && decide ((bstr x.n).size ≤ 50)) && bareB x.r x.s x.t x.m x.f x.p.length ⟨#[]⟩ x.v x.l
  else if x.k = 15 then tmD x.m && bareB x.r x.s x.t 0 x.f x.p.length (bstr x.n) x.v x.l
  else if x.k = 20 then tmD x.m && bareB x.r x.s x.t 0 x.f x.p.length (bstr x.n) x.v x.l
  else false
/-- params.Read tells of any bytes whether they are right. -/
def PrOk (ok : List Int → Bool) : Prop := ∀ (W : World) (v : Value) (ys : List Int), Rd W v ys → Plain v → ys.length ≤ 1000000 → Calls Tryd.prog 56 #[v] W (PrPost (ok ys) W)
/-- fields.IsVersion tells of any number whether it is a version. -/
def VrOk : Prop := ∀ (W : World) (v : Int), Calls Tryd.prog 28 #[.int .i64 v] W fun e w' => e = .returned (.bool (decide (0 < v) && decide (v < 4294967296))) ∧ W = w'
theorem mright_any {ok : List Int → Bool} (hp : PrOk ok) (hv : VrOk) {w : World} (x : Hm) {vp : Value} (hr : Rd w vp x.p) (hpl : Plain vp) (hl : x.p.length ≤ 1000000) :
    Calls Tryd.prog 12 #[.agg (mcl x.k x.r x.s x.t x.m x.f vp (bstr x.n) x.v x.l)] w fun e w' => e = .returned (.bool (rightB (ok x.p) x)) ∧ Below w.heap.size w w' := by
  have hp' := fun (W : World) (hW : Below w.heap.size w W) => hp W vp x.p (hr.below hW) hpl hl
  obtain ⟨k, r, s, t, m, f, p, n, v, l⟩ := x
  simp only at hp' hr hl ⊢
  obtain ⟨a, c, rfl⟩ := hr.shape
  unfold rightB
  simp only
  by_cases h1 : k = 1
  · subst h1; rw [if_pos rfl]; exact right_1 w r s t m f a _ c _ v l _ hp'
  rw [if_neg h1]
  by_cases h2 : k = 2
  · subst h2; rw [if_pos rfl]; exact right_2 w r s t m f a _ c _ v l _ (fun W => hv W v)
  rw [if_neg h2]
  by_cases h4 : k = 4
  · subst h4; rw [if_pos rfl]; exact right_4 w r s t m f a _ c _ v l
  rw [if_neg h4]
  by_cases h8 : k = 8
  · subst h8; rw [if_pos rfl]; exact right_8 w r s t m f a _ c _ v l _ hp'
  rw [if_neg h8]
  by_cases h11 : k = 11
  · subst h11; rw [if_pos rfl]; exact right_11 w r s t m f a _ c _ v l
  rw [if_neg h11]
  by_cases h15 : k = 15
  · subst h15; rw [if_pos rfl]; exact right_15 w r s t m f a _ c _ v l
  rw [if_neg h15]
  by_cases h20 : k = 20
  · subst h20; rw [if_pos rfl]; exact right_20 w r s t m f a _ c _ v l
  rw [if_neg h20]
  exact right_no w k r s t m f a _ c _ v l h1 h2 h4 h8 h11 h15 h20
theorem bstr_toList (zs : List Int) : (bstr zs).toList = [] ↔ zs = [] := by
  have h := bstr_size zs
  have e : (bstr zs).toList.length = (bstr zs).size := by rw [ByteArray.toList_eq]; simp
  constructor
  · intro h0
    rw [h0] at e
    exact List.eq_nil_of_length_eq_zero (by rw [← h, ← e]; rfl)
  · intro h0
    subst h0
    exact List.eq_nil_of_length_eq_zero (by rw [e, h]; rfl)
theorem empty_toList : (⟨#[]⟩ : ByteArray).toList = [] := by rw [ByteArray.toList_eq]
theorem sz_pos (l : Int) : 0 < sz l ↔ numR l := by
  unfold numR
  rcases sz_cases l with ⟨h, h'⟩ | ⟨h1, h2, k, hk, hk', _⟩
  · omega
  · omega
theorem tmD_iff (t : Int) : tmD t = true ↔ tmR t := by simp [tmD, tmR]
theorem rightB_iff (ok : List Int → Bool) (x : Hm) : rightB (ok x.p) x = true ↔ rightM ok x := by
  obtain ⟨k, r, s, t, m, f, p, n, v, l⟩ := x
  unfold rightB rightM
  simp only
  have hb := bstr_toList n
  have hz := bstr_size n
  by_cases h1 : k = 1
  · subst h1
    simp [bareB, tickB, tmD_iff, hb]
    grind
  by_cases h2 : k = 2
  · subst h2
    simp [bareB, tmD_iff, hb]
    grind
  by_cases h4 : k = 4
  · subst h4
    simp [bareB, tmD_iff, hb, sz_pos]
    grind
  by_cases h8 : k = 8
  · subst h8
    simp [bareB, hb]
    grind
  by_cases h11 : k = 11
  · subst h11
    simp [bareB, hz]
    grind
  by_cases h15 : k = 15
  · subst h15
    simp [bareB, tmD_iff, hb]
    grind
  by_cases h20 : k = 20
  · subst h20
    simp [bareB, tmD_iff, hb]
    grind
  simp [h1, h2, h4, h8, h11, h15, h20]
#print axioms mright_any
#print axioms rightB_iff
end Go.Proofs.YtefcjggmlhoebaaDoor
