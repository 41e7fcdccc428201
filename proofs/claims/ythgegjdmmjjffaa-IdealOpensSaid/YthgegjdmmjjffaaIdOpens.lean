/- IdealOpens' walk: what was sealed opens with its key and its head, and with no other ones. -/
import Derived.Test.YthgegjdmmjjffaaIdOpen
import Derived.Test.YthgegjdmmjjffaaIdBytes
namespace Go.Proofs.Ythgegjdmmjjffaa
open Go Go.RowKit

theorem sbytes_bstr {zs : List Int} (h : Byts zs) : sbytes (bstr zs) = zs := by
  have key : ∀ (zs : List Int) (r : ByteArray), (zs.foldl (fun r n => r.push (UInt8.ofNat n.toNat)) r).data.toList = r.data.toList ++ zs.map (fun n => UInt8.ofNat n.toNat) := by
    intro zs
    induction zs with
    | nil => intro r; simp
    | cons z zs ih => intro r; simp only [List.foldl_cons]; rw [ih]; simp [ByteArray.push]
  unfold sbytes bstr
  rw [key]
  have e : ByteArray.empty.data.toList = [] := rfl
  rw [e, List.nil_append, List.map_map]
  have : ∀ z ∈ zs, ((fun b : UInt8 => (b.toNat : Int)) ∘ fun n : Int => UInt8.ofNat n.toNat) z = z := fun z hz => by
    have := h z hz
    simp [Function.comp, UInt8.toNat_ofNat']
    omega
  rw [List.map_congr_left this, List.map_id']
theorem bstr_inj {xs ys : List Int} (hx : Byts xs) (hy : Byts ys) (h : bstr xs = bstr ys) : xs = ys := by
  rw [← sbytes_bstr hx, ← sbytes_bstr hy, h]

theorem sec2 : GoodN [secretNd, secretNd] := fun m hm p hp => by
  simp only [List.mem_cons, List.not_mem_nil, or_false, or_self] at hm
  subst hm; cases hp

set_option maxRecDepth 20000 in
set_option maxHeartbeats 1600000 in
theorem opens_main {w : World} {v0 v1 v2 : Value} {z0 z1 z2 : List Int} (r0 : Rd .u8 w v0 z0) (b0 : Byts z0) (r1 : Rd .u8 w v1 z1) (b1 : Byts z1) (r2 : Rd .u8 w v2 z2) (l0 : z0.length ≤ 500) (l1 : z1.length ≤ 500) (l2 : z2.length ≤ 500) :
    Calls Try.prog 15 #[v0, v1, v2] w fun e w' => e = .returned (.bool true) ∧ Below w.heap.size w w' := by
  have R0 := Lib.hid r0
  have R1 := Lib.hid r1
  have R2 := Lib.hid r2
  have L0 := Lib.hid l0
  have L1 := Lib.hid l1
  have L2 := Lib.hid l2
  obtain ⟨a0, p0, rfl, _⟩ := r0
  obtain ⟨a1, p1, rfl, _⟩ := r1
  obtain ⟨a2, p2, rfl, _⟩ := r2
  have t0 : decide ((500 : Int) < (z0.length : Int)) = false := decide_eq_false (by omega)
  have t1 : decide ((500 : Int) < (z1.length : Int)) = false := decide_eq_false (by omega)
  have t2 : decide ((500 : Int) < (z2.length : Int)) = false := decide_eq_false (by omega)
  have HEQ : Hid (z0 = z1 ↔ bstr z0 = bstr z1) := Lib.hid ⟨fun h => by rw [h], bstr_inj b0 b1⟩
  clear l0 l1 l2 b0 b1
  go_enter Try.func15, Try.ntmps15
  go_wp2_with fail
  refine (St.new w).mono ?_
  rintro e w1 ⟨tb, mb, rfl, s1⟩
  go_wp2_with fail
  refine (s1.secret (by simp) (z := 1) rfl).mono ?_
  rintro e w2 ⟨rfl, s2⟩
  clear s1
  go_wp2_with fail
  refine (s2.secret (by simp) (z := 2) rfl).mono ?_
  rintro e w3 ⟨rfl, s3⟩
  clear s2
  have s3' : St w w3 tb mb [secretNd, secretNd] [] := s3
  clear s3
  have c3 := s3'.text (R2.out.below s3'.bel) (by have := L2.out; omega) (by simp)
  obtain ⟨h1, h2, h3⟩ := text_has sec2 (bstr z2)
  have hl2 := (putN_len [secretNd, secretNd] (1, bstr z2, [])).2
  have HN : Hid ((textN [secretNd, secretNd] (bstr z2)).2.length ≤ 3) := Lib.hid hl2
  have H1 := Lib.hid h1
  have H2 := Lib.hid h2
  have H3 := Lib.hid h3
  generalize textN [secretNd, secretNd] (bstr z2) = T at *
  clear h1 h2 h3 hl2 s3'
  go_wp2_with fail
  refine c3.mono ?_
  rintro e w4 ⟨rfl, s4⟩
  clear c3
  have hle := H2.out.length_le
  have c4 := s4.seal 1 T.1 (R0.out.below s4.bel) (by have := L0.out; omega) (by have := HN.out; omega)
  obtain ⟨h, g1, g2, g3, g4⟩ := seal_has H3.out (key := 1) (content := T.1) ⟨by decide, by simp at hle; omega⟩ ⟨H1.out.pos, H1.out.le⟩ (bstr z0)
  have G1 := Lib.hid g1
  have G2 := Lib.hid g2
  generalize sealN T.2 1 (bstr z0) T.1 = U at *
  clear g1 g2 g3 g4 hle s4
  go_wp2_with fail
  refine c4.mono ?_
  rintro e w5 ⟨rfl, s5⟩
  clear c4
  have c5 := s5.open_head G2.out G1.out (R0.out.below s5.bel)
  rw [if_pos rfl, decide_eq_true rfl] at c5
  go_wp2_with fail
  refine c5.mono ?_
  rintro e w6 ⟨rfl, s6⟩
  clear c5 s5
  have c6 := s6.open_key G2.out (k := 2) (by decide) (.slice a0 z0.length p0)
  go_wp2_with fail
  refine c6.mono ?_
  rintro e w7 ⟨rfl, s7⟩
  clear c6 s6
  have c7 := s7.open_head G2.out G1.out (R1.out.below s7.bel)
  have q1 : (T.1 == T.1) = true := by simp
  by_cases hz : z0 = z1
  · rw [if_pos (HEQ.out.1 hz), decide_eq_true (HEQ.out.1 hz)] at c7
    have HZ := Lib.hid hz
    clear hz
    go_wp2_with fail
    refine c7.mono ?_
    rintro e w8 ⟨rfl, s8⟩
    clear c7 s7
    have c8 := isame_any (R0.out.below s8.bel) (R1.out.below s8.bel)
    rw [decide_eq_true HZ.out] at c8
    have HB8 := Lib.hid s8.bel
    clear s8
    go_wp2_with fail
    refine c8.mono ?_
    rintro e w9 ⟨rfl, b9⟩
    clear c8
    go_wp2_with fail
    refine (iawake_any w9).mono ?_
    rintro e w10 ⟨rfl, b10⟩
    go_wp2_with fail
    go_ret
    have hs8 := HB8.out.size
    have hs9 := b9.size
    exact ⟨rfl, HB8.out.trans ((b9.mono hs8).trans (b10.mono (by omega)))⟩
  · rw [if_neg (fun e => hz (HEQ.out.2 e)), decide_eq_false (fun e => hz (HEQ.out.2 e))] at c7
    have HZ := Lib.hid hz
    clear hz
    go_wp2_with fail
    refine c7.mono ?_
    rintro e w8 ⟨rfl, s8⟩
    clear c7 s7
    have c8 := isame_any (R0.out.below s8.bel) (R1.out.below s8.bel)
    rw [decide_eq_false HZ.out] at c8
    have HB8 := Lib.hid s8.bel
    clear s8
    go_wp2_with fail
    refine c8.mono ?_
    rintro e w9 ⟨rfl, b9⟩
    clear c8
    go_wp2_with fail
    refine (iawake_any w9).mono ?_
    rintro e w10 ⟨rfl, b10⟩
    go_wp2_with fail
    go_ret
    have hs8 := HB8.out.size
    have hs9 := b9.size
    exact ⟨rfl, HB8.out.trans ((b9.mono hs8).trans (b10.mono (by omega)))⟩

set_option maxRecDepth 20000 in
set_option maxHeartbeats 1600000 in
theorem opens_walk {w : World} {v0 v1 v2 : Value} {z0 z1 z2 : List Int} (r0 : Rd .u8 w v0 z0) (b0 : Byts z0) (r1 : Rd .u8 w v1 z1) (b1 : Byts z1) (r2 : Rd .u8 w v2 z2) :
    Calls Try.prog 15 #[v0, v1, v2] w fun e w' => e = .returned (.bool true) ∧ Below w.heap.size w w' := by
  by_cases h : z0.length ≤ 500 ∧ z1.length ≤ 500 ∧ z2.length ≤ 500
  · exact opens_main r0 b0 r1 b1 r2 h.1 h.2.1 h.2.2
  · obtain ⟨a0, p0, rfl, _⟩ := r0
    obtain ⟨a1, p1, rfl, _⟩ := r1
    obtain ⟨a2, p2, rfl, _⟩ := r2
    clear b0 b1
    by_cases h0 : 500 < z0.length
    · have t0 : decide ((500 : Int) < (z0.length : Int)) = true := decide_eq_true (by omega)
      clear h h0
      go_enter Try.func15, Try.ntmps15
      go_wp2_with fail
      go_ret
      exact ⟨rfl, Below.refl _ _⟩
    · have t0 : decide ((500 : Int) < (z0.length : Int)) = false := decide_eq_false (by omega)
      by_cases h1 : 500 < z1.length
      · have t1 : decide ((500 : Int) < (z1.length : Int)) = true := decide_eq_true (by omega)
        clear h h0 h1
        go_enter Try.func15, Try.ntmps15
        go_wp2_with fail
        go_ret
        exact ⟨rfl, Below.refl _ _⟩
      · have t1 : decide ((500 : Int) < (z1.length : Int)) = false := decide_eq_false (by omega)
        have t2 : decide ((500 : Int) < (z2.length : Int)) = true := decide_eq_true (by omega)
        clear h h0 h1
        go_enter Try.func15, Try.ntmps15
        go_wp2_with fail
        go_ret
        exact ⟨rfl, Below.refl _ _⟩
#print axioms opens_walk
end Go.Proofs.Ythgegjdmmjjffaa
