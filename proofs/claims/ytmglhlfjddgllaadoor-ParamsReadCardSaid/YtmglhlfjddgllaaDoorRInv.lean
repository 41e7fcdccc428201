/- Plain facts on params: what is read was written so. (bts_val, enc_rd stand in XGPure, too.) -/
import Derived.Test.YtmglhlfjddgllaaDoorRPure
namespace Go.Proofs.YtmglhlfjddgllaaDoor.Rv
open Go Go.RowKit

/-- A number's bytes are told back by what is read of them. -/
theorem bts_val {z : Int} {q : List Int} (hb : Byt (z :: q)) (hk : (z :: q).length = fs z) : bts (fs z) (val (z :: q)) = z :: q := by
  have hz := hb z List.mem_cons_self
  rcases fs_cases z hz with ⟨e, hf⟩ | ⟨e, hf⟩ | ⟨e, hf⟩ | ⟨e, hf⟩
  · rw [hf] at hk ⊢
    match q, hk with
    | [], _ => simp [bts, tl, val, vf, lg]; omega
  · rw [hf] at hk ⊢
    match q, hk with
    | [b], _ =>
      have h1 := hb b (by simp)
      simp [bts, tl, val, vf, lg]; omega
  · rw [hf] at hk ⊢
    match q, hk with
    | [b, c, d], _ =>
      have h1 := hb b (by simp)
      have h2 := hb c (by simp)
      have h3 := hb d (by simp)
      simp [bts, tl, val, vf, lg]; omega
  · rw [hf] at hk ⊢
    match q, hk with
    | [b, c, d, e1, f1, g1, h1], _ =>
      have k1 := hb b (by simp)
      have k2 := hb c (by simp)
      have k3 := hb d (by simp)
      have k4 := hb e1 (by simp)
      have k5 := hb f1 (by simp)
      have k6 := hb g1 (by simp)
      have k7 := hb h1 (by simp)
      simp [bts, tl, val, vf, lg]; omega
theorem enc_rd {zs : List Int} (hb : Byt zs) (h : (rd zs).2.2 = 0) : (0 ≤ (rd zs).1 ∧ (rd zs).1 < 4611686018427387904) ∧ zs.take (rd zs).2.1.toNat = enc (rd zs).1 ∧ (rd zs).2.1.toNat ≤ zs.length ∧ 1 ≤ (rd zs).2.1.toNat := by
  rcases rd_size hb with ⟨_, h1, k, hk, hk1, _, hkl⟩ | ⟨_, _, h3⟩
  · refine ⟨h1, ?_, by omega, by omega⟩
    cases zs with
    | nil => simp at hkl; omega
    | cons z r =>
      rw [rd_cons] at h hk ⊢
      split at h
      · cases h
      · rename_i hl
        simp only [if_neg hl] at hk ⊢
        split at h
        · rename_i hs
          simp only [if_pos hs] at hk ⊢
          have hz := hb z List.mem_cons_self
          have hf : 1 ≤ fs z := by rcases fs_cases z hz with ⟨_, h⟩ | ⟨_, h⟩ | ⟨_, h⟩ | ⟨_, h⟩ <;> omega
          obtain ⟨j, hj⟩ : ∃ j, fs z = j + 1 := ⟨fs z - 1, by omega⟩
          have ht : (z :: r).take (fs z) = z :: r.take j := by rw [hj]; rfl
          have hbt : Byt (z :: r.take j) := by rw [← ht]; exact hb.take _
          have hlen : (z :: r.take j).length = fs z := by rw [← ht, List.length_take]; omega
          have := bts_val hbt hlen
          unfold enc
          rw [hs, Int.toNat_natCast, ht]
          exact this.symm
        · cases h
  · omega

theorem cutP_inv {zs v s : List Int} {n : Int} (hb : Byt zs) (h : cutP zs = some (n, v, s)) : zs = fieldB n v ++ s ∧ 0 ≤ n ∧ Byt v ∧ Byt s := by
  unfold cutP at h
  split at h
  · rename_i h1
    obtain ⟨⟨a1, _⟩, a3, _, _⟩ := enc_rd hb h1
    split at h
    · rename_i h2
      obtain ⟨⟨b1, _⟩, b3, _, _⟩ := enc_rd (hb.drop _) h2
      split at h
      · cases h
      · rename_i h3
        simp only [Option.some.injEq, Prod.mk.injEq] at h
        obtain ⟨rfl, rfl, rfl⟩ := h
        refine ⟨?_, a1, ((hb.drop _).drop _).take _, ((hb.drop _).drop _).drop _⟩
        have hl : ((((zs.drop (rd zs).2.1.toNat).drop (rd (zs.drop (rd zs).2.1.toNat)).2.1.toNat).take (rd (zs.drop (rd zs).2.1.toNat)).1.toNat).length : Int) = (rd (zs.drop (rd zs).2.1.toNat)).1 := by
          rw [List.length_take]; omega
        unfold fieldB
        rw [hl, ← a3, ← b3, List.append_assoc, List.append_assoc, List.take_append_drop, List.take_append_drop, List.take_append_drop]
    · cases h
  · cases h
theorem wholeN_inv {v : List Int} {x : Int} (hb : Byt v) (h : wholeN v = some x) : v = enc x := by
  unfold wholeN at h
  split at h
  · rename_i h1
    obtain ⟨_, a3, _, _⟩ := enc_rd hb h1.1
    simp only [Option.some.injEq] at h
    rw [h1.2, List.take_length] at a3
    rw [← h]; exact a3
  · cases h
theorem by4_inv : ∀ {v l : List Int}, Byt v → by4 v = some l → v = l.flatMap fun x => big x 4 := by
  intro v
  induction v using by4.induct with
  | case1 => intro l _ h; simp [by4] at h; subst h; rfl
  | case2 a b c d r ih =>
    intro l hb h
    simp only [by4, Option.map_eq_some_iff] at h
    obtain ⟨l', h', rfl⟩ := h
    have ha := hb a (by simp)
    have hb1 := hb b (by simp)
    have hc := hb c (by simp)
    have hd := hb d (by simp)
    rw [List.flatMap_cons, ← ih (fun x hx => hb x (by simp [hx])) h']
    have e : big (bigv [a, b, c, d] 0) 4 = [a, b, c, d] := by
      simp only [big, bigv, List.cons.injEq, and_true]
      refine ⟨?_, ?_, ?_, ?_⟩ <;> simp <;> omega
    rw [e]; rfl
  | case3 v h1 h2 =>
    intro l _ h
    unfold by4 at h
    split at h
    · exact absurd rfl h1
    · exact absurd rfl (h2 _ _ _ _ _)
    · cases h
theorem putP_inv {p p' : Pv} {n : Int} {v : List Int} (hb : Byt v) (h : putP p n v = some p') :
    (n = 0 ∧ p' = { p with hg := true, g := v }) ∨ (n = 1 ∧ ∃ x, v = enc x ∧ p' = { p with i := x }) ∨ (n = 4 ∧ ∃ x, v = enc x ∧ p' = { p with d := x }) ∨ (n = 15 ∧ p' = { p with ho := true, o := v }) ∨ (n = 16 ∧ p' = { p with hr := true, r := v }) ∨ (n = 17 ∧ ∃ c l, v = versP c l ∧ p' = { p with c := c, l := l }) := by
  unfold putP at h
  split at h
  · simp only [Option.some.injEq] at h; exact .inl ⟨‹_›, h.symm⟩
  · split at h
    · simp only [Option.map_eq_some_iff] at h; obtain ⟨x, hx, rfl⟩ := h; exact .inr (.inl ⟨‹_›, x, wholeN_inv hb hx, rfl⟩)
    · split at h
      · simp only [Option.map_eq_some_iff] at h; obtain ⟨x, hx, rfl⟩ := h; exact .inr (.inr (.inl ⟨‹_›, x, wholeN_inv hb hx, rfl⟩))
      · split at h
        · simp only [Option.some.injEq] at h; exact .inr (.inr (.inr (.inl ⟨‹_›, h.symm⟩)))
        · split at h
          · simp only [Option.some.injEq] at h; exact .inr (.inr (.inr (.inr (.inl ⟨‹_›, h.symm⟩))))
          · split at h
            · split at h
              · rename_i c l hv
                simp only [Option.some.injEq] at h
                refine .inr (.inr (.inr (.inr (.inr ⟨‹_›, c, l, ?_, h.symm⟩))))
                have := by4_inv hb hv
                rw [List.flatMap_cons] at this
                exact this
              · cases h
            · cases h
theorem readF_inv {k : Nat} {last : Int} {m m' : Nat} {p q : Pv} {zs : List Int} (hb : Byt zs) (h : readF k last m p zs = some (q, m')) :
    (zs = [] ∧ q = p ∧ m' = m) ∨ ∃ n v s p' k', zs = fieldB n v ++ s ∧ Byt v ∧ Byt s ∧ last < n ∧ putP p n v = some p' ∧ readF k' n (m + manyP n) p' s = some (q, m') := by
  cases zs with
  | nil => rw [readF_nil] at h; simp only [Option.some.injEq, Prod.mk.injEq] at h; exact .inl ⟨rfl, h.1.symm, h.2.symm⟩
  | cons z r =>
    cases k with
    | zero => simp [readF] at h
    | succ k =>
      simp only [readF] at h
      split at h
      · cases h
      · rename_i n v s hc
        split at h
        · cases h
        · split at h
          · cases h
          · rename_i p' hp
            obtain ⟨e, _, h2, h3⟩ := cutP_inv hb hc
            exact .inr ⟨n, v, s, p', k, e, h2, h3, by omega, hp, h⟩
theorem a17 {k : Nat} {last : Int} {m m' : Nat} {p q : Pv} {zs : List Int} (hb : Byt zs) (hl : 17 ≤ last)  (h : readF k last m p zs = some (q, m')) : zs = [] ∧ q = p ∧ m' = m := by
  rcases readF_inv hb h with ⟨rfl, rfl, rfl⟩ | ⟨n, v, s, p', k', rfl, hv, hs, hn, hp, h'⟩
  · exact ⟨rfl, rfl, rfl⟩
  · rcases putP_inv hv hp with ⟨rfl, rfl⟩ | ⟨rfl, x, rfl, rfl⟩ | ⟨rfl, x, rfl, rfl⟩ | ⟨rfl, rfl⟩ | ⟨rfl, rfl⟩ | ⟨rfl, c, l, rfl, rfl⟩
    · omega
    · omega
    · omega
    · omega
    · omega
    · omega
theorem a16 {k : Nat} {last : Int} {m m' : Nat} {p q : Pv} {zs : List Int} (hb : Byt zs) (hl : 16 ≤ last)  (h : readF k last m p zs = some (q, m')) : m' ≤ m + 1 ∧ (m' = m + 1 → zs = fieldB 17 (versP q.c q.l) ∧ q.i = p.i ∧ q.d = p.d ∧ q.hg = p.hg ∧ q.g = p.g ∧ q.ho = p.ho ∧ q.o = p.o ∧ q.hr = p.hr ∧ q.r = p.r) := by
  rcases readF_inv hb h with ⟨rfl, rfl, rfl⟩ | ⟨n, v, s, p', k', rfl, hv, hs, hn, hp, h'⟩
  · exact ⟨by omega, fun e => by omega⟩
  · rcases putP_inv hv hp with ⟨rfl, rfl⟩ | ⟨rfl, x, rfl, rfl⟩ | ⟨rfl, x, rfl, rfl⟩ | ⟨rfl, rfl⟩ | ⟨rfl, rfl⟩ | ⟨rfl, c, l, rfl, rfl⟩
    · omega
    · omega
    · omega
    · omega
    · omega
    · have ha := a17 hs (Int.le_refl _)  h'
      have hm : manyP 17 = 1 := rfl
      rw [hm] at ha
      obtain ⟨rfl, rfl, rfl⟩ := ha
      refine ⟨by omega, fun e => ?_⟩
      first | omega | simp_all
theorem a15 {k : Nat} {last : Int} {m m' : Nat} {p q : Pv} {zs : List Int} (hb : Byt zs) (hl : 15 ≤ last) (hhr : p.hr = false) (h : readF k last m p zs = some (q, m')) : m' ≤ m + 1 ∧ (m' = m + 1 → zs = ((if q.hr then fieldB 16 q.r else []) ++ fieldB 17 (versP q.c q.l)) ∧ q.i = p.i ∧ q.d = p.d ∧ q.hg = p.hg ∧ q.g = p.g ∧ q.ho = p.ho ∧ q.o = p.o) := by
  rcases readF_inv hb h with ⟨rfl, rfl, rfl⟩ | ⟨n, v, s, p', k', rfl, hv, hs, hn, hp, h'⟩
  · exact ⟨by omega, fun e => by omega⟩
  · rcases putP_inv hv hp with ⟨rfl, rfl⟩ | ⟨rfl, x, rfl, rfl⟩ | ⟨rfl, x, rfl, rfl⟩ | ⟨rfl, rfl⟩ | ⟨rfl, rfl⟩ | ⟨rfl, c, l, rfl, rfl⟩
    · omega
    · omega
    · omega
    · omega
    · have ha := a16 hs (Int.le_refl _)  h'
      have hm : manyP 16 = 0 := rfl
      rw [hm] at ha
      refine ⟨by omega, fun e => ?_⟩
      first | omega | (have hb2 := ha.2 (by omega); simp_all)
    · have ha := a17 hs (Int.le_refl _)  h'
      have hm : manyP 17 = 1 := rfl
      rw [hm] at ha
      obtain ⟨rfl, rfl, rfl⟩ := ha
      refine ⟨by omega, fun e => ?_⟩
      first | omega | simp_all
theorem a4 {k : Nat} {last : Int} {m m' : Nat} {p q : Pv} {zs : List Int} (hb : Byt zs) (hl : 4 ≤ last) (hho : p.ho = false) (hhr : p.hr = false) (h : readF k last m p zs = some (q, m')) : m' ≤ m + 1 ∧ (m' = m + 1 → zs = ((if q.ho then fieldB 15 q.o else []) ++ ((if q.hr then fieldB 16 q.r else []) ++ fieldB 17 (versP q.c q.l))) ∧ q.i = p.i ∧ q.d = p.d ∧ q.hg = p.hg ∧ q.g = p.g) := by
  rcases readF_inv hb h with ⟨rfl, rfl, rfl⟩ | ⟨n, v, s, p', k', rfl, hv, hs, hn, hp, h'⟩
  · exact ⟨by omega, fun e => by omega⟩
  · rcases putP_inv hv hp with ⟨rfl, rfl⟩ | ⟨rfl, x, rfl, rfl⟩ | ⟨rfl, x, rfl, rfl⟩ | ⟨rfl, rfl⟩ | ⟨rfl, rfl⟩ | ⟨rfl, c, l, rfl, rfl⟩
    · omega
    · omega
    · omega
    · have ha := a15 hs (Int.le_refl _) (by exact hhr) h'
      have hm : manyP 15 = 0 := rfl
      rw [hm] at ha
      refine ⟨by omega, fun e => ?_⟩
      first | omega | (have hb2 := ha.2 (by omega); simp_all)
    · have ha := a16 hs (Int.le_refl _)  h'
      have hm : manyP 16 = 0 := rfl
      rw [hm] at ha
      refine ⟨by omega, fun e => ?_⟩
      first | omega | (have hb2 := ha.2 (by omega); simp_all)
    · have ha := a17 hs (Int.le_refl _)  h'
      have hm : manyP 17 = 1 := rfl
      rw [hm] at ha
      obtain ⟨rfl, rfl, rfl⟩ := ha
      refine ⟨by omega, fun e => ?_⟩
      first | omega | simp_all
theorem a1 {k : Nat} {last : Int} {m m' : Nat} {p q : Pv} {zs : List Int} (hb : Byt zs) (hl : 1 ≤ last) (hho : p.ho = false) (hhr : p.hr = false) (h : readF k last m p zs = some (q, m')) : m' ≤ m + 2 ∧ (m' = m + 2 → zs = (fieldB 4 (enc q.d) ++ ((if q.ho then fieldB 15 q.o else []) ++ ((if q.hr then fieldB 16 q.r else []) ++ fieldB 17 (versP q.c q.l)))) ∧ q.i = p.i ∧ q.hg = p.hg ∧ q.g = p.g) := by
  rcases readF_inv hb h with ⟨rfl, rfl, rfl⟩ | ⟨n, v, s, p', k', rfl, hv, hs, hn, hp, h'⟩
  · exact ⟨by omega, fun e => by omega⟩
  · rcases putP_inv hv hp with ⟨rfl, rfl⟩ | ⟨rfl, x, rfl, rfl⟩ | ⟨rfl, x, rfl, rfl⟩ | ⟨rfl, rfl⟩ | ⟨rfl, rfl⟩ | ⟨rfl, c, l, rfl, rfl⟩
    · omega
    · omega
    · have ha := a4 hs (Int.le_refl _) (by exact hho) (by exact hhr) h'
      have hm : manyP 4 = 1 := rfl
      rw [hm] at ha
      refine ⟨by omega, fun e => ?_⟩
      first | omega | (have hb2 := ha.2 (by omega); simp_all)
    · have ha := a15 hs (Int.le_refl _) (by exact hhr) h'
      have hm : manyP 15 = 0 := rfl
      rw [hm] at ha
      refine ⟨by omega, fun e => ?_⟩
      first | omega | (have hb2 := ha.2 (by omega); simp_all)
    · have ha := a16 hs (Int.le_refl _)  h'
      have hm : manyP 16 = 0 := rfl
      rw [hm] at ha
      refine ⟨by omega, fun e => ?_⟩
      first | omega | (have hb2 := ha.2 (by omega); simp_all)
    · have ha := a17 hs (Int.le_refl _)  h'
      have hm : manyP 17 = 1 := rfl
      rw [hm] at ha
      obtain ⟨rfl, rfl, rfl⟩ := ha
      refine ⟨by omega, fun e => ?_⟩
      first | omega | simp_all
theorem a0 {k : Nat} {last : Int} {m m' : Nat} {p q : Pv} {zs : List Int} (hb : Byt zs) (hl : 0 ≤ last) (hho : p.ho = false) (hhr : p.hr = false) (h : readF k last m p zs = some (q, m')) : m' ≤ m + 3 ∧ (m' = m + 3 → zs = (fieldB 1 (enc q.i) ++ (fieldB 4 (enc q.d) ++ ((if q.ho then fieldB 15 q.o else []) ++ ((if q.hr then fieldB 16 q.r else []) ++ fieldB 17 (versP q.c q.l))))) ∧ q.hg = p.hg ∧ q.g = p.g) := by
  rcases readF_inv hb h with ⟨rfl, rfl, rfl⟩ | ⟨n, v, s, p', k', rfl, hv, hs, hn, hp, h'⟩
  · exact ⟨by omega, fun e => by omega⟩
  · rcases putP_inv hv hp with ⟨rfl, rfl⟩ | ⟨rfl, x, rfl, rfl⟩ | ⟨rfl, x, rfl, rfl⟩ | ⟨rfl, rfl⟩ | ⟨rfl, rfl⟩ | ⟨rfl, c, l, rfl, rfl⟩
    · omega
    · have ha := a1 hs (Int.le_refl _) (by exact hho) (by exact hhr) h'
      have hm : manyP 1 = 1 := rfl
      rw [hm] at ha
      refine ⟨by omega, fun e => ?_⟩
      first | omega | (have hb2 := ha.2 (by omega); simp_all)
    · have ha := a4 hs (Int.le_refl _) (by exact hho) (by exact hhr) h'
      have hm : manyP 4 = 1 := rfl
      rw [hm] at ha
      refine ⟨by omega, fun e => ?_⟩
      first | omega | (have hb2 := ha.2 (by omega); simp_all)
    · have ha := a15 hs (Int.le_refl _) (by exact hhr) h'
      have hm : manyP 15 = 0 := rfl
      rw [hm] at ha
      refine ⟨by omega, fun e => ?_⟩
      first | omega | (have hb2 := ha.2 (by omega); simp_all)
    · have ha := a16 hs (Int.le_refl _)  h'
      have hm : manyP 16 = 0 := rfl
      rw [hm] at ha
      refine ⟨by omega, fun e => ?_⟩
      first | omega | (have hb2 := ha.2 (by omega); simp_all)
    · have ha := a17 hs (Int.le_refl _)  h'
      have hm : manyP 17 = 1 := rfl
      rw [hm] at ha
      obtain ⟨rfl, rfl, rfl⟩ := ha
      refine ⟨by omega, fun e => ?_⟩
      first | omega | simp_all
theorem am {k : Nat} {last : Int} {m m' : Nat} {p q : Pv} {zs : List Int} (hb : Byt zs) (_ : -1 ≤ last) (hhg : p.hg = false) (hho : p.ho = false) (hhr : p.hr = false) (h : readF k last m p zs = some (q, m')) : m' ≤ m + 3 ∧ (m' = m + 3 → zs = ((if q.hg then fieldB 0 q.g else []) ++ (fieldB 1 (enc q.i) ++ (fieldB 4 (enc q.d) ++ ((if q.ho then fieldB 15 q.o else []) ++ ((if q.hr then fieldB 16 q.r else []) ++ fieldB 17 (versP q.c q.l))))))) := by
  rcases readF_inv hb h with ⟨rfl, rfl, rfl⟩ | ⟨n, v, s, p', k', rfl, hv, hs, hn, hp, h'⟩
  · exact ⟨by omega, fun e => by omega⟩
  · rcases putP_inv hv hp with ⟨rfl, rfl⟩ | ⟨rfl, x, rfl, rfl⟩ | ⟨rfl, x, rfl, rfl⟩ | ⟨rfl, rfl⟩ | ⟨rfl, rfl⟩ | ⟨rfl, c, l, rfl, rfl⟩
    · have ha := a0 hs (Int.le_refl _) (by exact hho) (by exact hhr) h'
      have hm : manyP 0 = 0 := rfl
      rw [hm] at ha
      refine ⟨by omega, fun e => ?_⟩
      first | omega | (have hb2 := ha.2 (by omega); simp_all)
    · have ha := a1 hs (Int.le_refl _) (by exact hho) (by exact hhr) h'
      have hm : manyP 1 = 1 := rfl
      rw [hm] at ha
      refine ⟨by omega, fun e => ?_⟩
      first | omega | (have hb2 := ha.2 (by omega); simp_all)
    · have ha := a4 hs (Int.le_refl _) (by exact hho) (by exact hhr) h'
      have hm : manyP 4 = 1 := rfl
      rw [hm] at ha
      refine ⟨by omega, fun e => ?_⟩
      first | omega | (have hb2 := ha.2 (by omega); simp_all)
    · have ha := a15 hs (Int.le_refl _) (by exact hhr) h'
      have hm : manyP 15 = 0 := rfl
      rw [hm] at ha
      refine ⟨by omega, fun e => ?_⟩
      first | omega | (have hb2 := ha.2 (by omega); simp_all)
    · have ha := a16 hs (Int.le_refl _)  h'
      have hm : manyP 16 = 0 := rfl
      rw [hm] at ha
      refine ⟨by omega, fun e => ?_⟩
      first | omega | (have hb2 := ha.2 (by omega); simp_all)
    · have ha := a17 hs (Int.le_refl _)  h'
      have hm : manyP 17 = 1 := rfl
      rw [hm] at ha
      obtain ⟨rfl, rfl, rfl⟩ := ha
      refine ⟨by omega, fun e => ?_⟩
      first | omega | simp_all
/-- What is read was written so. -/
theorem read_again {zs : List Int} {p : Pv} (hb : Byt zs) (h : readP zs = some p) : zs = wrP p ∧ rightP p = true := by
  unfold readP at h
  split at h
  · rename_i q m hq
    split at h
    · rename_i hc
      simp only [Option.some.injEq] at h
      subst h
      have := (am hb (Int.le_refl _) rfl rfl rfl hq).2 hc.1
      refine ⟨?_, hc.2⟩
      unfold wrP bytesP
      rw [if_pos hc.2]
      simpa only [List.append_assoc] using this
    · cases h
  · cases h
end Go.Proofs.YtmglhlfjddgllaaDoor.Rv
