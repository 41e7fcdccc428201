/- strike, plainly: what is held as a list of numbers, each with the time at which it was made; the map that holds the same. -/
import Derived.Test.YtallpkchhkdanaaStKit
import Derived.Maps.Own
import Derived.Maps.OwnSet
import Derived.Maps.RangeWalk
namespace Go.Proofs.Ytallpkchhkdanaa
open Go Go.RowKit
open Go.Maps (Keyed)

def keysS (L : List Sp) : List Int := L.map Prod.fst
theorem keysS_app (L M : List Sp) : keysS (L ++ M) = keysS L ++ keysS M := by simp [keysS]
theorem mem_keysS {L : List Sp} {k : Int} : k ∈ keysS L ↔ ∃ p ∈ L, p.1 = k := by simp [keysS]
/-- Is what was made then old? -/
def oldB (win now : Int) (p : Sp) : Bool := decide (win < now - p.2)
def youngS (win now : Int) (L : List Sp) : List Sp := L.filter (fun p => !oldB win now p)
def i64 (n : Int) : Prop := -9223372036854775808 ≤ n ∧ n ≤ 9223372036854775807
/-- What may be held: no number twice, each made at a time from 0 on. -/
structure OkL (L : List Sp) : Prop where
  nodup : (keysS L).Nodup
  made : ∀ p ∈ L, 0 ≤ p.2 ∧ p.2 ≤ 9223372036854775807 ∧ i64 p.1
theorem OkL.nil : OkL [] := ⟨List.nodup_nil, fun p h => by cases h⟩
theorem OkL.filter {L : List Sp} (h : OkL L) (f : Sp → Bool) : OkL (L.filter f) :=
  ⟨h.nodup.sublist (List.filter_sublist.map _), fun p hp => h.made p (List.mem_filter.1 hp).1⟩
theorem OkL.eq {L : List Sp} (h : OkL L) {p q : Sp} (hp : p ∈ L) (hq : q ∈ L) (e : p.1 = q.1) : p = q := by
  have hn := h.nodup
  clear h
  induction L with
  | nil => cases hp
  | cons x r ih =>
    simp only [keysS, List.map_cons, List.nodup_cons, List.mem_map] at hn
    rcases List.mem_cons.1 hp with h1 | h1
    · rcases List.mem_cons.1 hq with h2 | h2
      · rw [h1, h2]
      · subst h1; exact absurd ⟨q, h2, e.symm⟩ hn.1
    · rcases List.mem_cons.1 hq with h2 | h2
      · subst h2; exact absurd ⟨p, h1, e⟩ hn.1
      · exact ih h1 h2 hn.2
theorem OkL.app {L : List Sp} (h : OkL L) {n m : Int} (hn : n ∉ keysS L) (h0 : 0 ≤ m) (h1 : m ≤ 9223372036854775807) (hi : i64 n) : OkL (L ++ [(n, m)]) := by
  refine ⟨?_, fun p hp => ?_⟩
  · rw [keysS_app]
    refine List.nodup_append.2 ⟨h.nodup, by simp [keysS], fun a ha b hb hab => ?_⟩
    simp [keysS] at hb
    subst hab; subst hb; exact hn ha
  · rcases List.mem_append.1 hp with hp | hp
    · exact h.made p hp
    · simp at hp; subst hp; exact ⟨h0, h1, hi⟩

/-- Try: an error's number, and what is held behind it. -/
def tryE (win room : Int) (L : List Sp) (n made now : Int) : Int :=
  if made < 0 ∨ now < 0 then 1 else if now < made ∨ win < now - made then 9 else if n ∈ keysS (youngS win now L) then 10 else if room ≤ ((youngS win now L).length : Int) then 5 else 0
def tryL (win room : Int) (L : List Sp) (n made now : Int) : List Sp :=
  if made < 0 ∨ now < 0 then L else if now < made ∨ win < now - made then L else if n ∈ keysS (youngS win now L) then youngS win now L else if room ≤ ((youngS win now L).length : Int) then youngS win now L else youngS win now L ++ [(n, made)]
theorem try_ok {win room : Int} {L : List Sp} (h : OkL L) {n made now : Int} (hn : i64 n) (hm : made ≤ 9223372036854775807) : OkL (tryL win room L n made now) := by
  unfold tryL
  split
  · exact h
  · split
    · exact h
    · split
      · exact h.filter _
      · split
        · exact h.filter _
        · exact (h.filter _).app (by assumption) (by omega) hm hn
theorem try_len {win room : Int} (L : List Sp) (n made now : Int) : (tryL win room L n made now).length ≤ L.length + 1 := by
  have hf : (youngS win now L).length ≤ L.length := List.length_filter_le _ _
  unfold tryL
  split
  · omega
  · split
    · omega
    · split
      · omega
      · split
        · omega
        · simp; omega

theorem keyT : Keyed Try.prog 29 := Go.Maps.int_keyed Try.underlying29
theorem wf_i64 {k : Int} (h : i64 k) : (Lit.int .i64 k).wf = true := by
  unfold i64 at h
  simp [Lit.wf, IntKind.min, IntKind.max, IntKind.bits, IntKind.signed]; omega
theorem keyOfT {k : Int} (h : i64 k) : keyOf Try.prog 29 (.int .i64 k) = some (.int .i64 k) := Go.Maps.keyOf_int_mk Try.underlying29 (wf_i64 h)
theorem i64_of {k : Int} (h : (Lit.int .i64 k).wf = true) : i64 k := by
  unfold i64
  simp [Lit.wf, IntKind.min, IntKind.max, IntKind.bits, IntKind.signed] at h; omega
theorem zero3 (w : World) : (zeroValue 3).run Try.prog w = .ok (.int .i64 0) w := by kernel_rfl

/-- The map's datum says what the list says. -/
structure SaysL (D : DataW Value) (L : List Sp) : Prop where
  has : ∀ k, i64 k → Maps.has D (.int .i64 k) = decide (k ∈ keysS L)
  val : ∀ p ∈ L, ∀ z, D.atKey (.int .i64 p.1) z = .lit (.int .i64 p.2)
  size : Maps.size D = L.length
theorem SaysL.nil : SaysL (.map []) [] := ⟨(fun k _ => by simp [Maps.has, keysS]), (fun p h => by cases h), rfl⟩
theorem ne_lit {a b : Int} (h : a ≠ b) : (Lit.int IntKind.i64 a) ≠ .int .i64 b := fun e => h (by cases e; rfl)
theorem SaysL.del {D : DataW Value} {L : List Sp} (h : SaysL D L) (ht : Maps.Tidy D) (hL : OkL L) {x c : Int} (hx : (x, c) ∈ L) : SaysL (D.del (.int .i64 x)) (L.filter (fun p => !(p.1 == x))) := by
  have hi := (hL.made _ hx).2.2
  have hk : x ∈ keysS L := mem_keysS.2 ⟨_, hx, rfl⟩
  refine ⟨fun k hk' => ?_, fun p hp z => ?_, ?_⟩
  · by_cases e : k = x
    · subst e
      rw [Maps.has_del_same]
      symm; rw [decide_eq_false_iff_not]
      intro hm
      obtain ⟨p, hp, e⟩ := mem_keysS.1 hm
      rw [List.mem_filter] at hp
      simp [e] at hp
    · rw [Maps.has_del_other (ne_lit e), h.has k hk']
      congr 1
      rw [eq_iff_iff, mem_keysS, mem_keysS]
      constructor
      · rintro ⟨p, hp, rfl⟩; exact ⟨p, List.mem_filter.2 ⟨hp, by simpa using e⟩, rfl⟩
      · rintro ⟨p, hp, rfl⟩; exact ⟨p, (List.mem_filter.1 hp).1, rfl⟩
  · rw [List.mem_filter] at hp
    rw [Maps.atKey_del_other (ne_lit (by simpa using hp.2))]
    exact h.val p hp.1 z
  · have h1 := Maps.size_del (k := .int .i64 x) ht
    rw [h.has x hi, decide_eq_true hk, h.size] at h1
    simp only [if_true] at h1
    have h2 : (L.filter (fun p => !(p.1 == x))).length + 1 = L.length := by
      have hn := hL.nodup
      clear h h1 hL hi hk
      induction L with
      | nil => cases hx
      | cons q r ih =>
        simp only [keysS, List.map_cons, List.nodup_cons, List.mem_map] at hn
        by_cases e : q.1 = x
        · have : r.filter (fun p => !(p.1 == x)) = r := List.filter_eq_self.2 fun p hp => by
            have : p.1 ≠ x := fun e2 => hn.1 ⟨p, hp, by rw [e2, e]⟩
            simpa using this
          rw [List.filter_cons, if_neg (by simp [e]), this]; rfl
        · rw [List.filter_cons, if_pos (by simpa using e)]
          rcases List.mem_cons.1 hx with rfl | hx
          · exact absurd rfl e
          · have := ih hx hn.2
            simp only [List.length_cons]; omega
    omega
theorem SaysL.put {D : DataW Value} {L : List Sp} (h : SaysL D L) (ht : Maps.Tidy D) {x c : Int} (hx : x ∉ keysS L) (hi : i64 x) : SaysL (D.put (.int .i64 x) (.lit (.int .i64 c))) (L ++ [(x, c)]) := by
  refine ⟨fun k hk' => ?_, fun p hp z => ?_, ?_⟩
  · by_cases e : k = x
    · subst e
      rw [Maps.has_put_same ht.isMap (show WideAt.IsKeyLit (.int .i64 _) from trivial)]
      symm; rw [decide_eq_true_eq, keysS_app]; simp [keysS]
    · rw [Maps.has_put_other (ne_lit e), h.has k hk']
      congr 1
      rw [keysS_app, eq_iff_iff, List.mem_append]
      simp [keysS, e]
  · rcases List.mem_append.1 hp with hp | hp
    · have : p.1 ≠ x := fun e => hx (mem_keysS.2 ⟨p, hp, e⟩)
      rw [Maps.atKey_put_other (ne_lit this)]
      exact h.val p hp z
    · simp at hp; subst hp
      exact Maps.atKey_put_same ht.isMap (show WideAt.IsKeyLit (.int .i64 _) from trivial) _ _
  · rw [Maps.size_put ht, h.has x hi, decide_eq_false hx, h.size]
    simp
/-- What stands in the map while it is gone through: what is not old, or still to come. -/
def goingS (win now : Int) (left : Lit → Bool) (L : List Sp) : List Sp := L.filter (fun p => !oldB win now p || left (.int .i64 p.1))
abbrev struck (left : Lit → Bool) (x : Int) : Lit → Bool := fun z => left z && !z.sameKey (.int .i64 x)
theorem struck_same (left : Lit → Bool) (x : Int) : struck left x (.int .i64 x) = false := by simp [struck, Lit.sameKey]
theorem struck_ne (left : Lit → Bool) {x k : Int} (h : k ≠ x) : struck left x (.int .i64 k) = left (.int .i64 k) := by simp [struck, Lit.sameKey, h]
theorem going_start {win now : Int} {D : DataW Value} {L : List Sp} (h : SaysL D L) (hL : OkL L) : goingS win now (Maps.has D) L = L :=
  List.filter_eq_self.2 fun p hp => by rw [h.has _ (hL.made p hp).2.2, decide_eq_true (mem_keysS.2 ⟨p, hp, rfl⟩)]; simp
theorem going_end {win now : Int} {left : Lit → Bool} (h : ∀ k, left k = false) (L : List Sp) : goingS win now left L = youngS win now L := by
  unfold goingS youngS; congr 1; funext p; rw [h]; simp
/-- An entry that has come. -/
theorem going_mem {win now : Int} {left : Lit → Bool} {D : DataW Value} {L : List Sp} (h : SaysL D (goingS win now left L)) {x c : Int} (hi : i64 x) (hat : ∀ z, D.atKey (.int .i64 x) z = .lit (.int .i64 c)) : (x, c) ∈ goingS win now left L := by
  have h1 := h.has x hi
  rw [Maps.has_true_of_atKey hat] at h1
  obtain ⟨p, hp, rfl⟩ := mem_keysS.1 (of_decide_eq_true h1.symm)
  have h2 := h.val p hp (.lit (.int .i64 0))
  rw [hat] at h2
  simp only [DataW.lit.injEq, Lit.int.injEq, true_and] at h2
  rw [h2]; exact hp
theorem going_old {win now : Int} {left : Lit → Bool} {L : List Sp} (hL : OkL L) {x c : Int} (hx : (x, c) ∈ L) (ho : oldB win now (x, c) = true) : (goingS win now left L).filter (fun p => !(p.1 == x)) = goingS win now (struck left x) L := by
  unfold goingS
  rw [List.filter_filter]
  refine List.filter_congr fun p hp => ?_
  by_cases e : p.1 = x
  · obtain rfl := hL.eq hp hx e
    rw [ho, struck_same]; simp
  · rw [struck_ne _ e]; simp [e]
theorem going_young {win now : Int} {left : Lit → Bool} {L : List Sp} (hL : OkL L) {x c : Int} (hx : (x, c) ∈ L) (ho : oldB win now (x, c) = false) : goingS win now left L = goingS win now (struck left x) L := by
  unfold goingS
  refine List.filter_congr fun p hp => ?_
  by_cases e : p.1 = x
  · obtain rfl := hL.eq hp hx e
    rw [ho]; simp
  · rw [struck_ne _ e]
/-- Nothing that has been gone by and is not old was made ahead of it. -/
def Bound (win now : Int) (left : Lit → Bool) (L : List Sp) (o : Int) : Prop := ∀ p ∈ L, oldB win now p = false → left (.int .i64 p.1) = false → o ≤ p.2
theorem Bound.start {win now : Int} {D : DataW Value} {L : List Sp} (h : SaysL D L) (hL : OkL L) (o : Int) : Bound win now (Maps.has D) L o := fun p hp _ hf => by
  rw [h.has _ (hL.made p hp).2.2, decide_eq_true (mem_keysS.2 ⟨p, hp, rfl⟩)] at hf; cases hf
theorem Bound.old {win now : Int} {left : Lit → Bool} {L : List Sp} {o : Int} (h : Bound win now left L o) (hL : OkL L) {x c : Int} (hx : (x, c) ∈ L) (ho : oldB win now (x, c) = true) : Bound win now (struck left x) L o := fun p hp h1 h2 => by
  by_cases e : p.1 = x
  · obtain rfl := hL.eq hp hx e
    rw [ho] at h1; cases h1
  · rw [struck_ne _ e] at h2; exact h p hp h1 h2
theorem Bound.young {win now : Int} {left : Lit → Bool} {L : List Sp} {o : Int} (h : Bound win now left L o) (hL : OkL L) {x c : Int} (hx : (x, c) ∈ L) {o' : Int} (h1 : o' ≤ o) (h2 : o' ≤ c) : Bound win now (struck left x) L o' := fun p hp h3 h4 => by
  by_cases e : p.1 = x
  · obtain rfl := hL.eq hp hx e
    exact h2
  · rw [struck_ne _ e] at h4
    have := h p hp h3 h4
    omega
theorem Bound.stop {win now : Int} {left : Lit → Bool} {L : List Sp} {o : Int} (h : Bound win now left L o) (hl : ∀ k, left k = false) : ∀ p ∈ youngS win now L, o ≤ p.2 := fun p hp => by
  unfold youngS at hp
  rw [List.mem_filter] at hp
  exact h p hp.1 (by simpa using hp.2) (hl _)
theorem young_all {win now o : Int} {L : List Sp} (h : ∀ p ∈ L, o ≤ p.2) (ho : ¬ win < now - o) : youngS win now L = L :=
  List.filter_eq_self.2 fun p hp => by
    have := h p hp
    unfold oldB
    rw [decide_eq_false (by omega)]; rfl
end Go.Proofs.Ytallpkchhkdanaa
