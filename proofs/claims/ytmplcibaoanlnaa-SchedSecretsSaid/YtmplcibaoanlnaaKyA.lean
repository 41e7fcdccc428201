/- The numbers of a map's keys, in rising order. -/
import Derived.Test.YtmplcibaoanlnaaMgA
import Derived.Test.YtmplcibaoanlnaaKyP
namespace Go.Proofs.Ytmplcibaoanlnaa
open Go Go.RowKit Go.Maps Go.Sort Go.Shelf

theorem int_keys {w : World} {mb n : Nat} {D : DataW Value} (h : w.ownsMap Try.prog 26 hR mb n D) : (intKeys D).Nodup ∧ ∀ x, x ∈ intKeys D ↔ (Maps.has D (.int .i64 x) = true ∧ (Lit.int .i64 x).wf = true) := by
  have ht := h.tidy keyT
  obtain ⟨es, rfl, hp⟩ := ht
  obtain ⟨es', e', hk⟩ := h.keysOf
  cases e'
  have hi : ∀ p ∈ es, ∃ x, p.1 = .int .i64 x ∧ (Lit.int .i64 x).wf = true := fun p hp' => by
    obtain ⟨v, hv⟩ := hk p hp'
    obtain ⟨x, _, h2, h3⟩ := Maps.keyOf_i64 Try.underlying26 hv
    exact ⟨x, h2, h3⟩
  refine ⟨?_, fun x => ?_⟩
  · show (es.map fun p => Go.intOf p.1).Nodup
    refine List.pairwise_map.2 (hp.imp_of_mem fun {p q} hp' hq' hne e => hne ?_)
    obtain ⟨a, ha, _⟩ := hi p hp'
    obtain ⟨b, hb, _⟩ := hi q hq'
    rw [ha, hb] at e ⊢
    exact congrArg _ e
  · show x ∈ (es.map fun p => Go.intOf p.1) ↔ _
    rw [List.mem_map, Maps.has_eq, List.any_eq_true]
    constructor
    · rintro ⟨p, hp', rfl⟩
      obtain ⟨a, ha, hw⟩ := hi p hp'
      rw [ha]
      exact ⟨⟨p, hp', by rw [ha]; simp [Lit.sameKey, Go.intOf]⟩, hw⟩
    · rintro ⟨⟨p, hp', hs⟩, _⟩
      obtain ⟨a, ha, hw⟩ := hi p hp'
      refine ⟨p, hp', ?_⟩
      rw [ha] at hs ⊢
      simpa [Lit.sameKey, Go.intOf] using hs
theorem sorts_any (m : Nat) : AnyZI.SortsIn Try.prog sortedA_ren Fence.wide m :=
  ⟨fun blk off cap ss W hH hblk hsz => callsIn_wide.2 (AnyM.slices_Sort_int sortA blk off cap ss W hH hblk hsz),
   fun p cap W => callsIn_wide.2 (AnyM.slices_Sort_int_none sortA p cap W)⟩
theorem keys_call (n : Nat) (mb : Option Nat) (W : World) : CallsIn Fence.wide n Try.prog 46 #[.map mb] W
    fun e w' => e = .returned (.func (.func 52) #[] #[.pointer (some ⟨W.heap.size, 0, none⟩)]) ∧ w' = W.alloc (.cells #[.map mb] 85) :=
  AnyZI.keys_in keysA Fence.wide n trivial rfl mb W
/-- What is sorted, none twice, rises. -/
theorem rising {ss : List Int} (hn : ss.Nodup) : (ss.mergeSort (fun x y => decide (x ≤ y))).Pairwise (· < ·) := by
  have h1 := List.pairwise_mergeSort (le := fun x y : Int => decide (x ≤ y)) (fun a b c h1 h2 => by simp only [decide_eq_true_eq] at *; omega) (fun a b => by simp only [Bool.or_eq_true, decide_eq_true_eq]; omega) ss
  have h2 : (ss.mergeSort (fun x y => decide (x ≤ y))).Nodup := (List.mergeSort_perm ss _).nodup_iff.2 hn
  exact (h1.and h2).imp fun {a b} ⟨x, y⟩ => by simp only [decide_eq_true_eq] at x; have : a ≠ b := y; omega
theorem sorted_call (n : Nat) (hn : 5 ≤ n) {W : World} {b : Nat} {f : Int → Option Value} (h : MapG W b f) :
    CallsIn Fence.wide n Try.prog 45 #[.func (.func 52) #[] #[.pointer (some ⟨W.heap.size, 0, none⟩)]] (W.alloc (.cells #[.map (some b)] 85))
      fun e w' => ∃ (v : Value) (l : List Int), e = .returned v ∧ l.Pairwise (· < ·) ∧ (∀ x, x ∈ l ↔ (f x ≠ none ∧ (Lit.int .i64 x).wf = true)) ∧ w'.ownsRow (W.heap.size + 1) 26 1 v l.length (cs .i64 l) ∧ Below (W.heap.size + 1) (W.alloc (.cells #[.map (some b)] 85)) w' := by
  obtain ⟨D, hown, hsays⟩ := h.ex
  have hbl := hown.lt
  have hsz := hown.size_le
  have hseq : SeqGives Fence.wide (n - 1 - 1 - 1) Try.prog 52 #[.pointer (some ⟨W.heap.size, 0, none⟩)] encZ (fun ss => ss.Perm (intKeys D)) (Maps.size D) (W.alloc (.cells #[.map (some b)] 85)) :=
    AnyZI.keys_gives (ρ := keysA_ren) { keysA with } Fence.wide _ trivial rfl (by omega) W.heap.size b 65536 D _ (by simp) (by simp) (by
      obtain ⟨es, clock, hb, Ft, hs, hD⟩ := hown
      exact ⟨es, clock, (Below.heap_alloc _ _ b hbl).trans hb, Ft, hs, hD⟩)
  have cS := AnyZI.sorted_in sortedA Fence.wide n trivial trivial trivial trivial rfl (by omega) (sorts_any _) (enters_of Try.func51 (by kernel_rfl) rfl) 52 #[.pointer (some ⟨W.heap.size, 0, none⟩)] trivial
    (enters_of Try.func52 (by kernel_rfl) rfl) _ _ (by unfold maxLen; omega) (by omega) _ hseq
  change CallsIn _ _ Try.prog 45 _ _ _ at cS
  refine cS.mono ?_
  rintro e w' ⟨v, ss, rfl, hS, hrow, _, hb⟩
  obtain ⟨hnd, hmem⟩ := int_keys hown
  refine ⟨v, ss.mergeSort (fun x y => decide (x ≤ y)), rfl, rising (hS.nodup_iff.2 hnd), fun x => ?_, ?_, ?_⟩
  · rw [(List.mergeSort_perm ss _).mem_iff, hS.mem_iff, hmem]
    constructor
    · rintro ⟨h1, h2⟩
      refine ⟨fun e => ?_, h2⟩
      rw [(hsays x h2).1 e] at h1; cases h1
    · rintro ⟨h1, h2⟩
      obtain ⟨v, hv⟩ := Option.ne_none_iff_exists'.1 h1
      exact ⟨((hsays x h2).2 v hv).1, h2⟩
  · rw [List.length_mergeSort]
    have : (W.alloc (.cells #[.map (some b)] 85)).heap.size = W.heap.size + 1 := by simp
    rw [this] at hrow
    exact hrow
  · have : (W.alloc (.cells #[.map (some b)] 85)).heap.size = W.heap.size + 1 := by simp
    rw [this] at hb
    exact hb
#print axioms sorted_call
end Go.Proofs.Ytmplcibaoanlnaa
