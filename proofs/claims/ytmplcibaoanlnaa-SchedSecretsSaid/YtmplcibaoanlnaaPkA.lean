/- What a mind is, in plain words, and what each of its steps makes of it. -/
import Derived.Test.YtmplcibaoanlnaaPure
namespace Go.Proofs.Ytmplcibaoanlnaa
open Go Go.RowKit

/-- A mind: how far each term has come; whose public ones follow; what is sealed with a key; what waits for a term; what has risen and is to be spread. -/
structure MS where
  st : Int → Int
  sh : Int → Bool
  shut : Int → List Int
  waits : Int → List Int
  news : List Int
def MS.none : MS := ⟨fun _ => 0, fun _ => false, fun _ => [], fun _ => [], []⟩
def up {α : Type} (f : Int → α) (k : Int) (v : α) : Int → α := fun j => if j = k then v else f j
theorem up_same {α : Type} (f : Int → α) (k : Int) (v : α) : up f k v k = v := if_pos rfl
theorem up_other {α : Type} (f : Int → α) {k j : Int} (v : α) (h : j ≠ k) : up f k v j = f j := if_neg h
def riseP (S : MS) (h to : Int) : MS := if S.st h < to then { S with st := up S.st h to, news := S.news ++ [h] } else S
def canP (S : MS) (x : Int) : Bool := decide (2 ≤ S.st x)
def agrP (S : MS) (a b : Int) : Bool := decide (S.st a = 3) && (S.sh b || decide (S.st b = 3))
def oneL : Option Int → List Int
  | some y => [y]
  | Option.none => []
def lackP (S : MS) (can : Int → Bool) (h k : Int) (ps : List Int) : List Int :=
  if k = 2 then [h] else if k = 8 then (if agrP S (ps.getD 0 0) (ps.getD 1 0) || agrP S (ps.getD 1 0) (ps.getD 0 0) then [] else ps)
  else oneL (ps.find? (fun y => !can y))
def waitP (S : MS) (h : Int) (l : List Int) : MS := l.foldl (fun S x => { S with waits := up S.waits x (S.waits x ++ [h]) }) S
def askP (S : MS) (h k : Int) (ps : List Int) : MS := if lackP S (canP S) h k ps = [] then riseP S h 2 else waitP S h (lackP S (canP S) h k ps)
def wakeStep (N : List Nd) (S : MS) (x : Int) : MS := if canP S x then S else askP S x (kindN N x) (partsN N x)
def wakeP (N : List Nd) (S : MS) (h : Int) : MS := (S.waits h).foldl (wakeStep N) { S with waits := up S.waits h [] }
def openStep (N : List Nd) (S : MS) (x : Int) : MS := askP { S with st := up S.st x 1 } x (kindN N x) (partsN N x)
/-- The terms below h, itself too, that weren't asked. -/
structure Bel (N : List Nd) (st : Int → Int) (h : Int) (l : List Int) : Prop where
  sorted : l.Pairwise (· < ·)
  inn : ∀ x ∈ l, 1 ≤ x ∧ x ≤ (N.length : Int) ∧ st x = 0
  top : 1 ≤ h → h ≤ (N.length : Int) → h ∈ l ∨ st h ≠ 0
  down : ∀ x ∈ l, ∀ y ∈ partsN N x, 1 ≤ y → y ≤ (N.length : Int) → y ∈ l ∨ st y ≠ 0
def rises (S : MS) (l : List Int) : MS := l.foldl (fun S x => riseP S x 3) S
def openP (N : List Nd) (S : MS) (l : List Int) (key content : Int) : MS :=
  if canP (l.foldl (openStep N) S) key then riseP (l.foldl (openStep N) S) content 3
  else { l.foldl (openStep N) S with shut := up (l.foldl (openStep N) S).shut key ((l.foldl (openStep N) S).shut key ++ [content]) }
def unfoldR (N : List Nd) (S : MS) (h : Int) (S' : MS) : Prop :=
  if kindN N h = 3 then S' = rises S (partsN N h)
  else if kindN N h = 7 then S' = wakeP N { S with sh := up S.sh ((partsN N h).getD 0 0) true } ((partsN N h).getD 0 0)
  else if kindN N h = 9 then S' = riseP S ((partsN N h).getD 1 0) 3
  else if kindN N h = 10 then ∃ l, Bel N S.st ((partsN N h).getD 0 0) l ∧ S' = openP N S l ((partsN N h).getD 0 0) ((partsN N h).getD 2 0)
  else S' = S
def spreadR (N : List Nd) (S : MS) (h : Int) (S' : MS) : Prop :=
  ∃ S1, (S.st h = 3 → unfoldR N S h S1) ∧ (S.st h ≠ 3 → S1 = S) ∧ S' = wakeP N { rises S1 (S1.shut h) with shut := up (rises S1 (S1.shut h)).shut h [] } h

/-- Nodes as a table has them. -/
structure Wf (N : List Nd) : Prop where
  low : ∀ x, 1 ≤ x → x ≤ (N.length : Int) → ∀ y ∈ partsN N x, 1 ≤ y ∧ y < x
  two : ∀ x, kindN N x = 8 → (partsN N x).length = 2 ∧ ∀ y ∈ partsN N x, kindN N y = 2
  one : ∀ x, kindN N x = 7 → (partsN N x).length = 1 ∧ ∀ y ∈ partsN N x, kindN N y = 2
  sig : ∀ x, kindN N x = 9 → (partsN N x).length = 2
  sea : ∀ x, kindN N x = 10 → (partsN N x).length = 3
  sixteen : ∀ x, (partsN N x).length ≤ 16
  pub : ∀ x y, kindN N x = 7 → kindN N y = 7 → partsN N x = partsN N y → x = y
  few : N.length ≤ 65536
/-- A mind whose numbers are the table's. -/
structure Inr (n : Nat) (S : MS) : Prop where
  st0 : ∀ x, S.st x ≠ 0 → 1 ≤ x ∧ x ≤ (n : Int)
  stb : ∀ x, 0 ≤ S.st x ∧ S.st x ≤ 3
  sh0 : ∀ x, S.sh x = true → 1 ≤ x ∧ x ≤ (n : Int)
  shut : ∀ k, ∀ x ∈ S.shut k, 1 ≤ x ∧ x ≤ (n : Int)
  waits : ∀ k, ∀ x ∈ S.waits k, 1 ≤ x ∧ x ≤ (n : Int)
  news : ∀ x ∈ S.news, 1 ≤ x ∧ x ≤ (n : Int)
/-- No list is longer. -/
structure Room (S : MS) (m : Nat) : Prop where
  shut : ∀ k, (S.shut k).length ≤ m
  waits : ∀ k, (S.waits k).length ≤ m
  news : S.news.length ≤ m
theorem Room.mono {S : MS} {m k : Nat} (h : Room S m) (hk : m ≤ k) : Room S k := ⟨fun x => Nat.le_trans (h.shut x) hk, fun x => Nat.le_trans (h.waits x) hk, Nat.le_trans h.news hk⟩
theorem Room.rise {S : MS} {m : Nat} (h : Room S m) (x to : Int) : Room (riseP S x to) (m + 1) := by
  unfold riseP
  split
  · exact ⟨fun k => Nat.le_trans (h.shut k) (by omega), fun k => Nat.le_trans (h.waits k) (by omega), by have := h.news; simp; omega⟩
  · exact h.mono (by omega)
theorem Room.wait {S : MS} {m : Nat} (h : Room S m) (x : Int) (l : List Int) : Room (waitP S x l) (m + l.length) := by
  induction l generalizing S m with
  | nil => exact h
  | cons y r ih =>
    have h1 : Room { S with waits := up S.waits y (S.waits y ++ [x]) } (m + 1) := ⟨fun k => Nat.le_trans (h.shut k) (by omega), fun k => by
      show (up S.waits y (S.waits y ++ [x]) k).length ≤ m + 1
      have h2 := h.waits k
      have h3 := h.waits y
      unfold up
      split
      · simp; omega
      · omega, Nat.le_trans h.news (by omega)⟩
    have := ih h1
    simp only [List.length_cons]
    exact this.mono (by omega)
theorem lack_len (S : MS) (can : Int → Bool) (h k : Int) (ps : List Int) (h8 : k = 8 → ps.length = 2) : (lackP S can h k ps).length ≤ 2 := by
  unfold lackP
  split
  · simp
  · split
    · rename_i e
      have := h8 e
      split <;> simp [this]
    · unfold oneL
      split <;> simp
theorem Room.ask {S : MS} {m : Nat} (h : Room S m) (x k : Int) (ps : List Int) (h8 : k = 8 → ps.length = 2) : Room (askP S x k ps) (m + 2) := by
  unfold askP
  split
  · exact (h.rise x 2).mono (by omega)
  · exact (h.wait x _).mono (by have := lack_len S (canP S) x k ps h8; omega)
theorem Inr.rise {n : Nat} {S : MS} (h : Inr n S) {x to : Int} (hx : 1 ≤ x ∧ x ≤ (n : Int)) (ht : 0 ≤ to ∧ to ≤ 3) : Inr n (riseP S x to) := by
  unfold riseP
  split
  · refine ⟨fun y hy => ?_, fun y => ?_, h.sh0, h.shut, h.waits, fun y hy => ?_⟩
    · by_cases e : y = x
      · rw [e]; exact hx
      · exact h.st0 y (by simpa [up_other _ _ e] using hy)
    · by_cases e : y = x
      · simp [e, up_same]; exact ht
      · simp [up_other _ _ e]; exact h.stb y
    · simp only [List.mem_append, List.mem_singleton] at hy
      rcases hy with hy | rfl
      · exact h.news y hy
      · exact hx
  · exact h
theorem Inr.wait {n : Nat} {S : MS} (h : Inr n S) {x : Int} (hx : 1 ≤ x ∧ x ≤ (n : Int)) (l : List Int) : Inr n (waitP S x l) := by
  induction l generalizing S with
  | nil => exact h
  | cons y r ih =>
    refine ih (S := { S with waits := up S.waits y (S.waits y ++ [x]) }) ⟨h.st0, h.stb, h.sh0, h.shut, fun k z hz => ?_, h.news⟩
    by_cases e : k = y
    · simp only [e, up_same, List.mem_append, List.mem_singleton] at hz
      rcases hz with hz | rfl
      · exact h.waits y z hz
      · exact hx
    · simp only [up_other _ _ e] at hz
      exact h.waits k z hz
theorem Inr.ask {n : Nat} {S : MS} (h : Inr n S) {x : Int} (hx : 1 ≤ x ∧ x ≤ (n : Int)) (k : Int) (ps : List Int) : Inr n (askP S x k ps) := by
  unfold askP
  split
  · exact h.rise hx (by omega)
  · exact h.wait hx _
#print axioms Inr.ask
end Go.Proofs.Ytmplcibaoanlnaa
