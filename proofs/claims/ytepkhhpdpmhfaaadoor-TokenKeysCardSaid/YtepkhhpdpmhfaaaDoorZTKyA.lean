/- The numbers of a map's keys, in rising order. -/
import Derived.Test.YtepkhhpdpmhfaaaDoorProg
import Derived.Shelf.SlGeneric
import Derived.Shelf.SlIterI.Nil
import Derived.Shelf.SortM.Plain
import Derived.Shelf.SortM.SortNone
import Derived.Ground.GgzProg
import Derived.Ground.SlgmProg
import Derived.Test.YtepkhhpdpmhfaaaDoorZTMgA
namespace Go.Proofs.YtepkhhpdpmhfaaaDoor.T
open Go Go.Shelf
def keysA_ren : Go.Shelf.Ren := ⟨fun | 7 => 55 | 10 => 63 | n => n, fun | 23 => 111 | 26 => 27 | 3 => 54 | 28 => 114 | 0 => 0 | 27 => 113 | 33 => 68 | 4 => 4 | n => n, fun | n => n⟩
theorem keysA : Go.Proofs.SlLaysZI.n7 Tryd.prog keysA_ren := {
  mixed := by kernel_rfl
  f7 := ⟨Tryd.f55.name, by decide, Tryd.func55.trans (congrArg some (by kernel_rfl))⟩
  f10 := ⟨Tryd.f63.name, by decide, Tryd.func63.trans (congrArg some (by kernel_rfl))⟩
  t0 := Tryd.underlying0
  a0 := Tryd.isAgg0
  z0 := Tryd.sizeOf0
  v0 := Tryd.zeroValue0
  t4 := Tryd.underlying4
  a4 := Tryd.isAgg4
  z4 := Tryd.sizeOf4
  v4 := Tryd.zeroValue4
  t23 := Tryd.underlying111
  a23 := Tryd.isAgg111
  z23 := Tryd.sizeOf111
  v23 := Tryd.zeroValue111
  t26 := Tryd.underlying27
  a26 := Tryd.isAgg27
  z26 := Tryd.sizeOf27
  v26 := Tryd.zeroValue27
  t27 := Tryd.underlying113
  a27 := Tryd.isAgg113
  z27 := Tryd.sizeOf113
  v27 := Tryd.zeroValue113
  t28 := Tryd.underlying114
  a28 := Tryd.isAgg114
  z28 := Tryd.sizeOf114
  v28 := Tryd.zeroValue114
  t33 := Tryd.underlying68
  a33 := Tryd.isAgg68
  z33 := Tryd.sizeOf68
  v33 := Tryd.zeroValue68 }
def sortedA_ren : Go.Shelf.Ren := ⟨fun | 6 => 54 | 8 => 61 | 9 => 62 | 11 => 68 | 13 => 70 | 12 => 69 | 23 => 80 | 24 => 81 | 14 => 71 | 15 => 72 | 16 => 73 | 17 => 74 | 18 => 75 | 19 => 76 | 20 => 77 | 21 => 78 | 22 => 79 | 25 => 82 | 26 => 83 | 27 => 84 | 28 => 85 | 29 => 86 | 30 => 87 | 31 => 88 | n => n, fun | 26 => 27 | 28 => 114 | 24 => 38 | 0 => 0 | 3 => 3 | 37 => 100 | 48 => 123 | 50 => 125 | 4 => 4 | 40 => 134 | 39 => 133 | 45 => 138 | 5 => 5 | 9 => 9 | 51 => 140 | 55 => 144 | 57 => 146 | 58 => 147 | 33 => 68 | n => n, fun | n => n⟩
theorem sortedA : Go.Proofs.SlLaysZI.n6 Tryd.prog sortedA_ren := {
  mixed := by kernel_rfl
  f6 := ⟨Tryd.f54.name, by decide, Tryd.func54.trans (congrArg some (by kernel_rfl))⟩
  f8 := ⟨Tryd.f61.name, by decide, Tryd.func61.trans (congrArg some (by kernel_rfl))⟩
  f11 := ⟨Tryd.f68.name, by decide, Tryd.func68.trans (congrArg some (by kernel_rfl))⟩
  t0 := Tryd.underlying0
  a0 := Tryd.isAgg0
  z0 := Tryd.sizeOf0
  v0 := Tryd.zeroValue0
  t24 := Tryd.underlying38
  a24 := Tryd.isAgg38
  z24 := Tryd.sizeOf38
  v24 := Tryd.zeroValue38
  t26 := Tryd.underlying27
  a26 := Tryd.isAgg27
  z26 := Tryd.sizeOf27
  v26 := Tryd.zeroValue27
  t28 := Tryd.underlying114
  a28 := Tryd.isAgg114
  z28 := Tryd.sizeOf114
  v28 := Tryd.zeroValue114
  i26 := by kernel_rfl }
def sortA_ren : Go.Shelf.Ren := ⟨fun | 5 => 62 | 8 => 70 | 7 => 69 | 19 => 80 | 20 => 81 | 10 => 71 | 11 => 72 | 12 => 73 | 13 => 74 | 14 => 75 | 15 => 76 | 16 => 77 | 17 => 78 | 18 => 79 | 30 => 82 | 31 => 83 | 32 => 84 | 33 => 85 | 34 => 86 | 35 => 87 | 40 => 88 | n => n, fun | 23 => 38 | 25 => 27 | 3 => 3 | 32 => 100 | 22 => 38 | 0 => 0 | 44 => 123 | 46 => 125 | 4 => 4 | 36 => 134 | 35 => 133 | 41 => 138 | 5 => 5 | 9 => 9 | 53 => 140 | 57 => 144 | 63 => 146 | 64 => 147 | n => n, fun | n => n⟩
theorem sortA : Go.Proofs.SlLaysM.n5 Tryd.prog sortA_ren := {
  mixed := by kernel_rfl
  f5 := ⟨Tryd.f62.name, by decide, Tryd.func62.trans (congrArg some (by kernel_rfl))⟩
  f7 := ⟨Tryd.f69.name, by decide, Tryd.func69.trans (congrArg some (by kernel_rfl))⟩
  f8 := Tryd.func70.trans (congrArg some (by kernel_rfl))
  f10 := ⟨Tryd.f71.name, by decide, Tryd.func71.trans (congrArg some (by kernel_rfl))⟩
  f11 := ⟨Tryd.f72.name, by decide, Tryd.func72.trans (congrArg some (by kernel_rfl))⟩
  f12 := ⟨Tryd.f73.name, by decide, Tryd.func73.trans (congrArg some (by kernel_rfl))⟩
  f13 := ⟨Tryd.f74.name, by decide, Tryd.func74.trans (congrArg some (by kernel_rfl))⟩
  f14 := ⟨Tryd.f75.name, by decide, Tryd.func75.trans (congrArg some (by kernel_rfl))⟩
  f15 := ⟨Tryd.f76.name, by decide, Tryd.func76.trans (congrArg some (by kernel_rfl))⟩
  f16 := ⟨Tryd.f77.name, by decide, Tryd.func77.trans (congrArg some (by kernel_rfl))⟩
  f17 := ⟨Tryd.f78.name, by decide, Tryd.func78.trans (congrArg some (by kernel_rfl))⟩
  f18 := ⟨Tryd.f79.name, by decide, Tryd.func79.trans (congrArg some (by kernel_rfl))⟩
  f19 := Tryd.func80.trans (congrArg some (by kernel_rfl))
  f20 := Tryd.func81.trans (congrArg some (by kernel_rfl))
  f30 := ⟨Tryd.f82.name, by decide, Tryd.func82.trans (congrArg some (by kernel_rfl))⟩
  f31 := Tryd.func83.trans (congrArg some (by kernel_rfl))
  f32 := Tryd.func84.trans (congrArg some (by kernel_rfl))
  f33 := ⟨Tryd.f85.name, by decide, Tryd.func85.trans (congrArg some (by kernel_rfl))⟩
  f34 := ⟨Tryd.f86.name, by decide, Tryd.func86.trans (congrArg some (by kernel_rfl))⟩
  f35 := ⟨Tryd.f87.name, by decide, Tryd.func87.trans (congrArg some (by kernel_rfl))⟩
  f40 := ⟨Tryd.f88.name, by decide, Tryd.func88.trans (congrArg some (by kernel_rfl))⟩
  t0 := Tryd.underlying0
  a0 := Tryd.isAgg0
  z0 := Tryd.sizeOf0
  v0 := Tryd.zeroValue0
  t3 := Tryd.underlying3
  a3 := Tryd.isAgg3
  z3 := Tryd.sizeOf3
  v3 := Tryd.zeroValue3
  t4 := Tryd.underlying4
  a4 := Tryd.isAgg4
  z4 := Tryd.sizeOf4
  v4 := Tryd.zeroValue4
  t5 := Tryd.underlying5
  a5 := Tryd.isAgg5
  z5 := Tryd.sizeOf5
  v5 := Tryd.zeroValue5
  t9 := Tryd.underlying9
  a9 := Tryd.isAgg9
  z9 := Tryd.sizeOf9
  v9 := Tryd.zeroValue9
  t22 := Tryd.underlying38
  a22 := Tryd.isAgg38
  z22 := Tryd.sizeOf38
  v22 := Tryd.zeroValue38
  t23 := Tryd.underlying38
  a23 := Tryd.isAgg38
  z23 := Tryd.sizeOf38
  v23 := Tryd.zeroValue38
  t25 := Tryd.underlying27
  a25 := Tryd.isAgg27
  z25 := Tryd.sizeOf27
  v25 := Tryd.zeroValue27
  t32 := Tryd.underlying100
  a32 := Tryd.isAgg100
  z32 := Tryd.sizeOf100
  v32 := Tryd.zeroValue100
  t35 := Tryd.underlying133
  a35 := Tryd.isAgg133
  z35 := Tryd.sizeOf133
  v35 := Tryd.zeroValue133
  t36 := Tryd.underlying134
  a36 := Tryd.isAgg134
  z36 := Tryd.sizeOf134
  v36 := Tryd.zeroValue134
  t41 := Tryd.underlying138
  a41 := Tryd.isAgg138
  z41 := Tryd.sizeOf138
  v41 := Tryd.zeroValue138
  t44 := Tryd.underlying123
  a44 := Tryd.isAgg123
  z44 := Tryd.sizeOf123
  v44 := Tryd.zeroValue123
  t46 := Tryd.underlying125
  a46 := Tryd.isAgg125
  z46 := Tryd.sizeOf125
  v46 := Tryd.zeroValue125
  t53 := Tryd.underlying140
  a53 := Tryd.isAgg140
  z53 := Tryd.sizeOf140
  v53 := Tryd.zeroValue140
  t57 := Tryd.underlying144
  a57 := Tryd.isAgg144
  z57 := Tryd.sizeOf144
  v57 := Tryd.zeroValue144
  t63 := Tryd.underlying146
  a63 := Tryd.isAgg146
  z63 := Tryd.sizeOf146
  v63 := Tryd.zeroValue146
  t64 := Tryd.underlying147
  a64 := Tryd.isAgg147
  z64 := Tryd.sizeOf147
  v64 := Tryd.zeroValue147 }
end Go.Proofs.YtepkhhpdpmhfaaaDoor.T
namespace Go.Proofs.YtepkhhpdpmhfaaaDoor.T
open Go Go.RowKit Go.Maps Go.Sort Go.Shelf

theorem int_keys {w : World} {mb n : Nat} {D : DataW Value} (h : w.ownsMap Tryd.prog 27 hR mb n D) : (intKeys D).Nodup ∧ ∀ x, x ∈ intKeys D ↔ (Maps.has D (.int .i64 x) = true ∧ (Lit.int .i64 x).wf = true) := by
  have ht := h.tidy keyT
  obtain ⟨es, rfl, hp⟩ := ht
  obtain ⟨es', e', hk⟩ := h.keysOf
  cases e'
  have hi : ∀ p ∈ es, ∃ x, p.1 = .int .i64 x ∧ (Lit.int .i64 x).wf = true := fun p hp' => by
    obtain ⟨v, hv⟩ := hk p hp'
    obtain ⟨x, _, h2, h3⟩ := Maps.keyOf_i64 Tryd.underlying27 hv
    exact ⟨x, h2, h3⟩
  refine ⟨?_, fun x => ?_⟩
  · show (es.map fun p => Go.intOf p.1).Nodup
    refine List.pairwise_map.2 (hp.imp_of_mem fun {p q} hp' hq' hne e => hne ?_)
    obtain ⟨a, ha, _⟩ := hi p hp'
    obtain ⟨b, hb, _⟩ := hi q hq'
    rw [ha, hb] at e ⊢
    exact congrArg _ e
  · show x ∈ (es.map fun p => Go.intOf p.1) ↔ _
    rw [List.mem_map, Maps.has_eq, List.any_eq_true]
    constructor
    · rintro ⟨p, hp', rfl⟩
      obtain ⟨a, ha, hw⟩ := hi p hp'
      rw [ha]
      exact ⟨⟨p, hp', by rw [ha]; simp [Lit.sameKey, Go.intOf]⟩, hw⟩
    · rintro ⟨⟨p, hp', hs⟩, _⟩
      obtain ⟨a, ha, hw⟩ := hi p hp'
      refine ⟨p, hp', ?_⟩
      rw [ha] at hs ⊢
      simpa [Lit.sameKey, Go.intOf] using hs
theorem sorts_any (m : Nat) : AnyZI.SortsIn Tryd.prog sortedA_ren Fence.wide m :=
  ⟨fun blk off cap ss W hH hblk hsz => callsIn_wide.2 (AnyM.slices_Sort_int sortA blk off cap ss W hH hblk hsz),
   fun p cap W => callsIn_wide.2 (AnyM.slices_Sort_int_none sortA p cap W)⟩
theorem keys_call (n : Nat) (mb : Option Nat) (W : World) : CallsIn Fence.wide n Tryd.prog 55 #[.map mb] W
    fun e w' => e = .returned (.func (.func 63) #[] #[.pointer (some ⟨W.heap.size, 0, none⟩)]) ∧ w' = W.alloc (.cells #[.map mb] 111) :=
  AnyZI.keys_in keysA Fence.wide n trivial rfl mb W
/-- What is sorted, none twice, rises. -/
theorem rising {ss : List Int} (hn : ss.Nodup) : (ss.mergeSort (fun x y => decide (x ≤ y))).Pairwise (· < ·) := by
  have h1 := List.pairwise_mergeSort (le := fun x y : Int => decide (x ≤ y)) (fun a b c h1 h2 => by simp only [decide_eq_true_eq] at *; omega) (fun a b => by simp only [Bool.or_eq_true, decide_eq_true_eq]; omega) ss
  have h2 : (ss.mergeSort (fun x y => decide (x ≤ y))).Nodup := (List.mergeSort_perm ss _).nodup_iff.2 hn
  exact (h1.and h2).imp fun {a b} ⟨x, y⟩ => by simp only [decide_eq_true_eq] at x; have : a ≠ b := y; omega
theorem sorted_call (n : Nat) (hn : 5 ≤ n) {W : World} {b : Nat} {f : Int → Option Value} (h : MapG W b f) :
    CallsIn Fence.wide n Tryd.prog 54 #[.func (.func 63) #[] #[.pointer (some ⟨W.heap.size, 0, none⟩)]] (W.alloc (.cells #[.map (some b)] 111))
      fun e w' => ∃ (v : Value) (l : List Int), e = .returned v ∧ l.Pairwise (· < ·) ∧ (∀ x, x ∈ l ↔ (f x ≠ none ∧ (Lit.int .i64 x).wf = true)) ∧ w'.ownsRow (W.heap.size + 1) 27 1 v l.length (cs .i64 l) ∧ Below (W.heap.size + 1) (W.alloc (.cells #[.map (some b)] 111)) w' := by
  obtain ⟨D, hown, hsays⟩ := h.ex
  have hbl := hown.lt
  have hsz := hown.size_le
  have hseq : SeqGives Fence.wide (n - 1 - 1 - 1) Tryd.prog 63 #[.pointer (some ⟨W.heap.size, 0, none⟩)] encZ (fun ss => ss.Perm (intKeys D)) (Maps.size D) (W.alloc (.cells #[.map (some b)] 111)) :=
    AnyZI.keys_gives (ρ := keysA_ren) { keysA with } Fence.wide _ trivial rfl (by omega) W.heap.size b 65536 D _ (by simp) (by simp) (by
      obtain ⟨es, clock, hb, Ft, hs, hD⟩ := hown
      exact ⟨es, clock, (Below.heap_alloc _ _ b hbl).trans hb, Ft, hs, hD⟩)
  have cS := AnyZI.sorted_in sortedA Fence.wide n trivial trivial trivial trivial rfl (by omega) (sorts_any _) (enters_of Tryd.func62 (by kernel_rfl) rfl) 63 #[.pointer (some ⟨W.heap.size, 0, none⟩)] trivial
    (enters_of Tryd.func63 (by kernel_rfl) rfl) _ _ (by unfold maxLen; omega) (by omega) _ hseq
  change CallsIn _ _ Tryd.prog 54 _ _ _ at cS
  refine cS.mono ?_
  rintro e w' ⟨v, ss, rfl, hS, hrow, _, hb⟩
  obtain ⟨hnd, hmem⟩ := int_keys hown
  refine ⟨v, ss.mergeSort (fun x y => decide (x ≤ y)), rfl, rising (hS.nodup_iff.2 hnd), fun x => ?_, ?_, ?_⟩
  · rw [(List.mergeSort_perm ss _).mem_iff, hS.mem_iff, hmem]
    constructor
    · rintro ⟨h1, h2⟩
      refine ⟨fun e => ?_, h2⟩
      rw [(hsays x h2).1 e] at h1; cases h1
    · rintro ⟨h1, h2⟩
      obtain ⟨v, hv⟩ := Option.ne_none_iff_exists'.1 h1
      exact ⟨((hsays x h2).2 v hv).1, h2⟩
  · rw [List.length_mergeSort]
    have : (W.alloc (.cells #[.map (some b)] 111)).heap.size = W.heap.size + 1 := by simp
    rw [this] at hrow
    exact hrow
  · have : (W.alloc (.cells #[.map (some b)] 111)).heap.size = W.heap.size + 1 := by simp
    rw [this] at hb
    exact hb
#print axioms sorted_call
end Go.Proofs.YtepkhhpdpmhfaaaDoor.T
