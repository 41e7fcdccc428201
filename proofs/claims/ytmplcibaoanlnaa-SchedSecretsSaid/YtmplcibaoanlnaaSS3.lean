/- SchedSecrets, for every input. -/
import Derived.Test.YtmplcibaoanlnaaScRk
import Derived.Test.YtmplcibaoanlnaaPkY
import Derived.Test.YtmplcibaoanlnaaMgN
namespace Go.Proofs.Ytmplcibaoanlnaa
open Go Go.RowKit

theorem Has.parts {N : List Nd} {c : Int} {n : Nd} (h : Has N c n) : partsN N c = n.2.2 := by unfold partsN; rw [h.at']
theorem der_text {N : List Nd} {Bs : Int → Prop} {x : Int} {s : ByteArray} (h : Has N x (1, s, [])) : Der N Bs false x :=
  .made h.pos h.le (by rw [h.kind]; show (1 : Int) ≠ 2; decide) (by rw [h.kind]; show (1 : Int) ≠ 8; decide) fun y hy => by rw [h.parts] at hy; cases hy
theorem der_parts {N : List Nd} {Bs : Int → Prop} {x k : Int} {t : ByteArray} {ps : List Int} (h : Has N x (k, t, ps)) (h2 : k ≠ 2) (h8 : k ≠ 8) (hp : ∀ y ∈ ps, Der N Bs false y) : Der N Bs false x :=
  .made h.pos h.le (by rw [h.kind]; exact h2) (by rw [h.kind]; exact h8) fun y hy => hp y (by rw [h.parts] at hy; exact hy)
/-- Where nothing can be taken apart nothing else follows. -/
theorem der_base {N : List Nd} {Bs : Int → Prop} (hB : ∀ y, Bs y → kindN N y ≠ 3 ∧ kindN N y ≠ 9 ∧ kindN N y ≠ 10) {z : Int} (d : Der N Bs true z) : Bs z := by
  have key : ∀ {b : Bool} {z : Int}, Der N Bs b z → b = true → Bs z := by
    intro b z d
    induction d with
    | base h _ _ => exact fun _ => h
    | row _ k _ ih => exact absurd k (hB _ (ih rfl)).1
    | signed _ k ih => exact absurd k (hB _ (ih rfl)).2.1
    | sealed _ k _ ih _ => exact absurd k (hB _ (ih rfl)).2.2
    | _ => exact fun e => by cases e
  exact key d rfl
/-- What has a secret in it that does not follow can't be made, if it does not follow. -/
theorem der_shut {N : List Nd} {Bs : Int → Prop} (hB : ∀ y, Bs y → kindN N y ≠ 3 ∧ kindN N y ≠ 9 ∧ kindN N y ≠ 10) {x k : Int} (k8 : kindN N x ≠ 8) (hx : ¬ Bs x) (hk : k ∈ partsN N x) (k2 : kindN N k = 2) (hkb : ¬ Bs k) {b : Bool} : ¬ Der N Bs b x := fun d => by
  rcases der_split d k8 with e | ⟨_, e⟩
  · exact hx (der_base hB e)
  · exact hkb (der_base hB (der_secret (e k hk) k2))
/-- With a sealed one, and a secret that is not its key: nothing more. -/
theorem der_sealed_no {N : List Nd} {Bs : Int → Prop} {h k : Int} (hk : (partsN N h).getD 0 0 = k) (k2 : kindN N k = 2) (hB : ∀ y, Bs y → y = h ∨ (kindN N y = 2 ∧ y ≠ k)) {s : Int} (s2 : kindN N s = 2) (hs : ¬ Bs s) (h10 : kindN N h = 10) {b : Bool} : ¬ Der N Bs b s := by
  have key : ∀ {b : Bool} {z : Int}, Der N Bs b z → (b = true → Bs z) ∧ (kindN N z = 2 → Bs z) := by
    intro b z d
    induction d with
    | base h1 _ _ => exact ⟨fun _ => h1, fun _ => h1⟩
    | row _ k3 _ ih =>
      rcases hB _ (ih.1 rfl) with e | e
      · subst e; omega
      · omega
    | signed _ k9 ih =>
      rcases hB _ (ih.1 rfl) with e | e
      · subst e; omega
      · omega
    | sealed _ k10 _ ih ih2 =>
      rcases hB _ (ih.1 rfl) with e | e
      · subst e
        rw [hk] at ih2
        rcases hB _ (ih2.2 k2) with e | e
        · subst e; omega
        · exact absurd rfl e.2
      · omega
    | fo _ ih => exact ⟨fun e => (by cases e), ih.2⟩
    | made _ _ h2 _ _ _ => exact ⟨fun e => (by cases e), fun e => absurd e h2⟩
    | both k8 _ _ _ _ => exact ⟨fun e => (by cases e), fun e => by omega⟩
    | left k8 _ _ _ _ _ _ => exact ⟨fun e => (by cases e), fun e => by omega⟩
    | right k8 _ _ _ _ _ _ => exact ⟨fun e => (by cases e), fun e => by omega⟩
  exact fun d => hs ((key d).2 s2)
#print axioms der_shut
#print axioms der_sealed_no
end Go.Proofs.Ytmplcibaoanlnaa
namespace Go.Proofs.Ytmplcibaoanlnaa
open Go Go.RowKit

theorem TabAt.tp {w : World} {B tb mb : Nat} {nv : Value} {N : List Nd} (h : TabAt w B tb mb nv N) : Tp w (fun _ => False) (.pointer (some ⟨tb, 0, none⟩)) N := by
  obtain ⟨L, h1, h2⟩ := h.ex
  exact .inr ⟨B, tb, mb, nv, rfl, ⟨L, h1, h2, fun _ _ h => h⟩⟩
end Go.Proofs.Ytmplcibaoanlnaa
namespace Go.Proofs.Ytmplcibaoanlnaa
open Go Go.RowKit

theorem Gd.canB {w0 w : World} {tb mb n : Nat} {N : List Nd} {rs : List (Nat × Obj)} (h : Gd w0 w tb mb N n rs) (hn : n ≤ 60000) {lv : Value} {ls : List Int} (hl : Rd .i64 w lv ls) (hwf : ∀ y ∈ ls, (Lit.int .i64 y).wf = true) {x : Int} (hx : (Lit.int .i64 x).wf = true) :
    Calls Try.prog 17 #[.pointer (some ⟨tb, 0, none⟩), lv, .int .i64 x] w fun e w' => ∃ b : Bool, e = .returned (.bool b) ∧ (b = true ↔ Der N (fun y => y ∈ ls) false x) ∧ Gd w0 w' tb mb N n rs ∧ Below w.heap.size w w' := by
  obtain ⟨nv, ht⟩ := h.st.st.tab
  have hlen := h.len
  exact (kcan_any ht.at.tp (h.good.fit (by omega)).1.wf hl hwf hx).mono fun e w' ⟨b, he, hb, hB⟩ => ⟨b, he, hb, h.keep hB, hB⟩
/-- A row of its own is a guest. -/
theorem Gd.beside {w0 w : World} {tb mb n : Nat} {N : List Nd} {rs : List (Nat × Obj)} (h : Gd w0 w tb mb N n rs) {base k : Nat} {v : Value} {xs : List Int} (ho : w.ownsRow base 26 1 v (k + 1) (cs .i64 xs)) :
    ∃ g cur, Gd w0 w tb mb N n ((g, .cells cur 26 (0, 0)) :: rs) ∧ ∀ w' : World, w'.heap[g]? = some (.cells cur 26 (0, 0)) → w'.ownsRow base 26 1 v (k + 1) (cs .i64 xs) := by
  have ho' := ho
  rcases ho.2 with ⟨_, h0⟩ | ⟨g, cap, cur, rfl, hg, hh, _⟩
  · omega
  · exact ⟨g, cur, ⟨h.st.other hh (by decide) (by decide), h.good, h.len⟩, fun w' hw => own_keep ho' fun g' hg' => by cases hg'; rw [hw, hh]⟩
theorem wfN {N : List Nd} {n : Nat} {c : Int} (h1 : 1 ≤ c ∧ c ≤ (N.length : Int)) (h : N.length ≤ n) (hn : n ≤ 60000) : (Lit.int .i64 c).wf = true := wf_small c (by omega) (by omega)
/-- What is there behind SchedSecrets' calls. -/
structure Sch (M : List Nd) (x y p q tr o e sh r s m c1 s1 c2 s2 f1 f2 rs : Int) (ms : List ByteArray) : Prop where
  sx : M[(x - 1).toNat]? = some secretNd
  rx : 1 ≤ x ∧ x ≤ (M.length : Int)
  sy : M[(y - 1).toNat]? = some secretNd
  ry : 1 ≤ y ∧ y ≤ (M.length : Int)
  hp : Has M p (7, ByteArray.empty, [x])
  hq : Has M q (7, ByteArray.empty, [y])
  htr : IsTr M tr ms
  ho : Has M o (1, lNone, [])
  he : Drv0 M e o lEarly
  hsh : Has M sh (8, ByteArray.empty, [min x y, max x y])
  hr : Has M r (3, ByteArray.empty, [e, sh])
  hs : Drv0 M s r lHandshake
  hm : Drv0 M m s lMain
  hc1 : Drv M c1 s lClientHs tr
  hs1 : Drv M s1 s lServerHs tr
  hc2 : Drv M c2 m lClientApp tr
  hs2 : Drv M s2 m lServerApp tr
  hf1 : IsMac M f1 c1 lFinished tr
  hf2 : IsMac M f2 s1 lFinished tr
  hrs : Drv M rs m lResume tr
variable {M : List Nd} {x y p q tr o e sh r s m c1 s1 c2 s2 f1 f2 rs : Int} {ms : List ByteArray}
/-- A kind that can't be taken apart, nor is it a secret. -/
def Dull (k : Int) : Prop := k = 7 ∨ k = 1 ∨ k = 4 ∨ k = 5
theorem IsTr.kind {c : Int} (h : IsTr M c ms) : kindN M c = 1 ∨ kindN M c = 4 := by
  cases ms with
  | nil => exact .inl (Has.kind h)
  | cons m ms => obtain ⟨_, _, _, _, _, _, h4⟩ := h; exact .inr h4.kind
theorem IsMac.kind {c s x : Int} {lab : ByteArray} (h : IsMac M c s lab x) : kindN M c = 5 := by obtain ⟨_, _, h2⟩ := h; exact h2.kind
theorem Sch.flat (h : Sch M x y p q tr o e sh r s m c1 s1 c2 s2 f1 f2 rs ms) : ∀ z ∈ [p, q, tr, f1, f2], Dull (kindN M z) := by
  intro z hz
  simp only [List.mem_cons, List.not_mem_nil, or_false] at hz
  unfold Dull
  rcases hz with rfl | rfl | rfl | rfl | rfl
  · exact .inl h.hp.kind
  · exact .inl h.hq.kind
  · rcases h.htr.kind with e | e
    · exact .inr (.inl e)
    · exact .inr (.inr (.inl e))
  · exact .inr (.inr (.inr h.hf1.kind))
  · exact .inr (.inr (.inr h.hf2.kind))
theorem dull_base {Bs : Int → Prop} (hB : ∀ z, Bs z → Dull (kindN M z)) {z : Int} (d : Der M Bs true z) : Bs z :=
  der_base (fun y hy => by have := hB y hy; unfold Dull at this; omega) d
theorem no_up {Bs : Int → Prop} (hB : ∀ z, Bs z → Dull (kindN M z)) {c z k : Int} {t : ByteArray} {ps : List Int} (hc : Has M c (k, t, ps)) (hk : k = 3 ∨ k = 6) (hz : z ∈ ps) (nz : ∀ b, ¬ Der M Bs b z) : ∀ b, ¬ Der M Bs b c := fun b d => by
  have kc : kindN M c = k := hc.kind
  rcases der_split d (by omega) with e | ⟨_, e⟩
  · have := hB _ (dull_base hB e); unfold Dull at this; omega
  · exact nz _ (e z (by rw [hc.parts]; exact hz))
theorem no_shared {Bs : Int → Prop} (hB : ∀ z, Bs z → Dull (kindN M z)) {z : Int} (k8 : kindN M z = 8) (n0 : ¬ Bs ((partsN M z).getD 0 0)) (n1 : ¬ Bs ((partsN M z).getD 1 0)) : ∀ b, ¬ Der M Bs b z := by
  have ht : ∀ {z}, Der M Bs true z → kindN M z = 8 → False := fun d k => by have := hB _ (dull_base hB d); unfold Dull at this; omega
  intro b d
  cases d with
  | base h h1 h2 => exact ht (.base h h1 h2) k8
  | row d k hx => exact ht (.row d k hx) k8
  | signed d k => exact ht (.signed d k) k8
  | sealed d k e => exact ht (.sealed d k e) k8
  | fo d => exact ht d k8
  | made _ _ _ h8 _ => exact h8 k8
  | both _ d _ => exact n0 (dull_base hB d)
  | left _ d _ _ _ => exact n0 (dull_base hB d)
  | right _ d _ _ _ => exact n1 (dull_base hB d)
theorem Sch.no (h : Sch M x y p q tr o e sh r s m c1 s1 c2 s2 f1 f2 rs ms) : ∀ z ∈ [s, m, c1, s1, c2, s2, rs], ¬ Der M (fun z => z ∈ [p, q, tr, f1, f2]) false z := by
  have hB := h.flat
  have n2 : ∀ {z : Int}, kindN M z = 2 → ¬ z ∈ [p, q, tr, f1, f2] := fun k hz => by have := hB _ hz; unfold Dull at this; omega
  have kx := sec_kind h.sx h.rx.1
  have ky := sec_kind h.sy h.ry.1
  have k8 : kindN M sh = 8 := h.hsh.kind
  have e0 : (partsN M sh).getD 0 0 = min x y := by rw [h.hsh.parts]; rfl
  have e1 : (partsN M sh).getD 1 0 = max x y := by rw [h.hsh.parts]; rfl
  have n0 : ¬ min x y ∈ [p, q, tr, f1, f2] := by
    rcases Int.le_total x y with hl | hl
    · rw [Int.min_eq_left hl]; exact n2 kx
    · rw [Int.min_eq_right hl]; exact n2 ky
  have n1 : ¬ max x y ∈ [p, q, tr, f1, f2] := by
    rcases Int.le_total x y with hl | hl
    · rw [Int.max_eq_right hl]; exact n2 ky
    · rw [Int.max_eq_left hl]; exact n2 kx
  have nsh := no_shared hB k8 (by rw [e0]; exact n0) (by rw [e1]; exact n1)
  have nr := no_up hB h.hr (.inl rfl) (by simp) nsh
  obtain ⟨_, _, _, _, a0⟩ := h.hs
  have ns := no_up hB a0 (.inr rfl) (by simp) nr
  obtain ⟨_, _, _, _, am⟩ := h.hm
  have nm := no_up hB am (.inr rfl) (by simp) ns
  obtain ⟨_, _, a1⟩ := h.hc1
  obtain ⟨_, _, a2⟩ := h.hs1
  obtain ⟨_, _, a3⟩ := h.hc2
  obtain ⟨_, _, a4⟩ := h.hs2
  obtain ⟨_, _, a5⟩ := h.hrs
  intro z hz
  simp only [List.mem_cons, List.not_mem_nil, or_false] at hz
  rcases hz with rfl | rfl | rfl | rfl | rfl | rfl | rfl
  · exact ns _
  · exact nm _
  · exact no_up hB a1 (.inr rfl) (by simp) ns _
  · exact no_up hB a2 (.inr rfl) (by simp) ns _
  · exact no_up hB a3 (.inr rfl) (by simp) nm _
  · exact no_up hB a4 (.inr rfl) (by simp) nm _
  · exact no_up hB a5 (.inr rfl) (by simp) nm _
theorem Drv.der {Bs : Int → Prop} {c s x : Int} {lab : ByteArray} (h : Drv M c s lab x) (hs : Der M Bs false s) (hx : Der M Bs false x) : Der M Bs false c := by
  obtain ⟨l, h1, h2⟩ := h
  refine der_parts h2 (by decide) (by decide) fun y hy => ?_
  simp only [List.mem_cons, List.not_mem_nil, or_false] at hy
  rcases hy with rfl | rfl | rfl
  · exact hs
  · exact der_text h1
  · exact hx
theorem Drv0.der {Bs : Int → Prop} {c s : Int} {lab : ByteArray} (h : Drv0 M c s lab) (hs : Der M Bs false s) : Der M Bs false c := by
  obtain ⟨e, h1, h2⟩ := h
  exact h2.der hs (der_text h1)
theorem Sch.yes (h : Sch M x y p q tr o e sh r s m c1 s1 c2 s2 f1 f2 rs ms) : ∀ z ∈ [s, m, c1, s1, c2, s2, rs], Der M (fun z => z ∈ [p, q, tr, f1, f2, x]) false z := by
  have dx : Der M (fun z => z ∈ [p, q, tr, f1, f2, x]) true x := .base (by simp) h.rx.1 h.rx.2
  have dq : Der M (fun z => z ∈ [p, q, tr, f1, f2, x]) true q := .base (by simp) h.hq.pos h.hq.le
  have dt : Der M (fun z => z ∈ [p, q, tr, f1, f2, x]) false tr := .fo (.base (by simp) h.htr.rng.1 h.htr.rng.2)
  have k8 : kindN M sh = 8 := h.hsh.kind
  have k7 : kindN M q = 7 := h.hq.kind
  have e0 : (partsN M sh).getD 0 0 = min x y := by rw [h.hsh.parts]; rfl
  have e1 : (partsN M sh).getD 1 0 = max x y := by rw [h.hsh.parts]; rfl
  have dsh : Der M (fun z => z ∈ [p, q, tr, f1, f2, x]) false sh := by
    rcases Int.le_total x y with hl | hl
    · rw [Int.min_eq_left hl] at e0
      rw [Int.max_eq_right hl] at e1
      exact .left k8 (e0 ▸ dx) dq k7 (by rw [e1, h.hq.parts])
    · rw [Int.min_eq_right hl] at e0
      rw [Int.max_eq_left hl] at e1
      exact .right k8 (e1 ▸ dx) dq k7 (by rw [e0, h.hq.parts])
  have dr : Der M (fun z => z ∈ [p, q, tr, f1, f2, x]) false r := der_parts h.hr (by decide) (by decide) fun z hz => by
    simp only [List.mem_cons, List.not_mem_nil, or_false] at hz
    rcases hz with rfl | rfl
    · exact h.he.der (der_text h.ho)
    · exact dsh
  have ds := h.hs.der dr
  have dm := h.hm.der ds
  intro z hz
  simp only [List.mem_cons, List.not_mem_nil, or_false] at hz
  rcases hz with rfl | rfl | rfl | rfl | rfl | rfl | rfl
  · exact ds
  · exact dm
  · exact h.hc1.der ds dt
  · exact h.hs1.der ds dt
  · exact h.hc2.der dm dt
  · exact h.hs2.der dm dt
  · exact h.hrs.der dm dt
#print axioms Sch.no
#print axioms Sch.yes
end Go.Proofs.Ytmplcibaoanlnaa
namespace Go.Proofs.Ytmplcibaoanlnaa
open Go Go.RowKit

set_option maxRecDepth 30000 in
set_option maxHeartbeats 16000000 in
theorem ssec_walk {w : World} {gv av : Value} {zg : List Int} {qa : List (Value × List Int)} {kn : Bool} (hg : Rd .u8 w gv zg) (ha : Rl w av qa) (hlg : zg.length ≤ 50) (hla : qa.length ≤ 10) :
    Calls Try.prog 3 #[gv, av, .bool kn] w fun e w' => e = .returned (.bool true) ∧ Below w.heap.size w w' := by
  obtain ⟨aa, ac, rfl, hac⟩ := ha.shape
  have HGV := Lib.hid hg
  obtain ⟨ga, gc, rfl, _⟩ := hg
  have t0 : decide ((50 : Int) < (zg.length : Int)) = false := decide_eq_false (by omega)
  have t1 : decide ((10 : Int) < (qa.length : Int)) = false := decide_eq_false (by omega)
  have HA := Lib.hid (And.intro ha.rd hac)
  have HL := Lib.hid (And.intro hla hlg)
  clear ha hac hla hlg
  go_enter Try.func3, Try.ntmps3
  go_wp2_with fail
  refine (St.new w).mono ?_
  rintro e w1 ⟨tb, mb, rfl, s1⟩
  have c1 := s1.beginS (by simp)
  obtain ⟨p1, p2, p3⟩ := text_has good_nil ByteArray.empty
  have p4 := textN_len [] ByteArray.empty
  go_wp2_with fail
  refine c1.mono ?_
  rintro e w2 ⟨rfl, s2⟩
  clear c1 s1
  generalize textN [] ByteArray.empty = T at *
  have H3 := Lib.hid (show Gd w w2 tb mb T.2 1 [] ∧ IsTr T.2 T.1 [] from ⟨⟨Sg.of_st s2, p3, by simpa using p4⟩, p1⟩)
  clear s2 p1 p2 p3 p4
  go_wp2_with fail
  go_loopw [8, 9] (fun xv i wr => ∃ (j : Nat) (N : List Nd) (x : Int), xv = .int .i64 x ∧ i = .int .i64 j ∧ j ≤ qa.length ∧ Hid (Gd w wr tb mb N (1 + 3 * j) [] ∧ IsTr N x (msOf qa j))) (fun _ i _ => qa.length - (intOf i).toNat)
  case atStart => exact ⟨0, T.2, T.1, rfl, rfl, Nat.zero_le _, H3⟩
  case round =>
    obtain ⟨j, N, x, rfl, rfl, hj, hT⟩ := hrel
    by_cases hlt : j < qa.length
    · obtain ⟨q, hq⟩ : ∃ q, qa[j]? = some q := ⟨_, List.getElem?_eq_getElem hlt⟩
      obtain ⟨b, off, rfl, hc⟩ := HA.out.2 j q hq
      have hr := HA.out.1 q (List.mem_of_getElem? hq)
      have HQ := Lib.hid hq
      obtain ⟨v, zs⟩ := q
      simp only at hr hc
      obtain ⟨za, zc, rfl, _⟩ := hr
      have HR := Lib.hid (HA.out.1 _ (List.mem_of_getElem? hq))
      have hc1 : wr.cell? ⟨b, off + j, none⟩ = some (.slice za zs.length zc) := by rw [hT.out.1.st.bel.cell (cell_lt hc)]; exact hc
      have hi : (j : Int) < (qa.length : Int) := by omega
      have hi9 : (j : Int) < 10 := by have := HL.out; omega
      clear hc hq
      by_cases hz : 200 < zs.length
      · have hz' : decide ((200 : Int) < (zs.length : Int)) = true := decide_eq_true (by omega)
        have HBel := Lib.hid hT.out.1.st.bel
        clear hT hz
        go_wp2_with fail
        go_ret
        exact ⟨rfl, HBel.out⟩
      · have hz' : decide ((200 : Int) < (zs.length : Int)) = false := decide_eq_false (by omega)
        have c1 := hT.out.1.nextG hT.out.2 (HR.out.below hT.out.1.st.bel) (by show zs.length ≤ 2048; omega) (by have := HL.out; omega)
        clear hz
        go_wp2_with fail
        refine c1.mono ?_
        rintro e w4 ⟨N4, x4, rfl, g4, p4, f4⟩
        have H7 := Lib.hid (And.intro g4 f4)
        clear c1 hc1 g4 p4 f4
        go_wp2_with fail
        go_roundw
        case rel =>
          refine ⟨j + 1, N4, x4, rfl, by go_num, by omega, Lib.hid ⟨H7.out.1.mono (by omega), ?_⟩⟩
          rw [msOf_succ HQ.out]; exact H7.out.2
        case measure => have := HL.out; simp [intOf]; omega
    · obtain rfl : j = qa.length := by omega
      have g : Gd w wr tb mb N 60 [] := hT.out.1.mono (by have := HL.out; omega)
      have Ftr := Lib.hid hT.out.2
      obtain ⟨tr, htr⟩ : ∃ y, y = x := ⟨_, rfl⟩
      rw [← htr] at Ftr ⊢
      clear htr
      generalize msOf qa qa.length = ms at *
      clear hT hlt hj H3
      have c := g.secretG (by omega)
      clear g
      go_wp2_with fail
      refine c.mono ?_
      rintro e v1 ⟨M1, x, rfl, g, pf, f⟩
      replace Ftr := Lib.hid (Ftr.out.ext pf)
      have Fx := Lib.hid f
      clear c pf f
      have c := g.secretG (by omega)
      clear g
      go_wp2_with fail
      refine c.mono ?_
      rintro e v2 ⟨M2, y, rfl, g, pf, f⟩
      replace Ftr := Lib.hid (Ftr.out.ext pf)
      replace Fx := Lib.hid (And.intro (sec_ext Fx.out.1 pf) (rng_ext Fx.out.2 pf))
      have Fy := Lib.hid f
      clear c pf f
      replace g := g.keep (below_alloc v2 (.cells (cs .i64 [x]).toArray 26))
      have c := g.publicG Fx.out.1 Fx.out.2 (Rd.lit .i64 26 v2 [x] (by simp)) (by omega)
      clear g
      go_wp2_with fail
      refine c.mono ?_
      rintro e v3 ⟨M3, p, rfl, g, pf, f⟩
      replace Ftr := Lib.hid (Ftr.out.ext pf)
      replace Fx := Lib.hid (And.intro (sec_ext Fx.out.1 pf) (rng_ext Fx.out.2 pf))
      replace Fy := Lib.hid (And.intro (sec_ext Fy.out.1 pf) (rng_ext Fy.out.2 pf))
      have Fp := Lib.hid f
      clear c pf f
      replace g := g.keep (below_alloc v3 (.cells (cs .i64 [y]).toArray 26))
      have c := g.publicG Fy.out.1 Fy.out.2 (Rd.lit .i64 26 v3 [y] (by simp)) (by omega)
      clear g
      go_wp2_with fail
      refine c.mono ?_
      rintro e v4 ⟨M4, q, rfl, g, pf, f⟩
      replace Ftr := Lib.hid (Ftr.out.ext pf)
      replace Fx := Lib.hid (And.intro (sec_ext Fx.out.1 pf) (rng_ext Fx.out.2 pf))
      replace Fy := Lib.hid (And.intro (sec_ext Fy.out.1 pf) (rng_ext Fy.out.2 pf))
      replace Fp := Lib.hid (Fp.out.ext pf)
      have Fq := Lib.hid f
      clear c pf f
      have c := g.earlyG 0 (.inl rfl) (by omega)
      clear g
      go_wp2_with fail
      refine c.mono ?_
      rintro e v5 ⟨M5, e0, rfl, g, pf, f⟩
      obtain ⟨o, fo, f⟩ := f
      replace fo := fo.resolve_right (fun hh => hh.1 rfl)
      replace fo := fo.2
      replace Ftr := Lib.hid (Ftr.out.ext pf)
      replace Fx := Lib.hid (And.intro (sec_ext Fx.out.1 pf) (rng_ext Fx.out.2 pf))
      replace Fy := Lib.hid (And.intro (sec_ext Fy.out.1 pf) (rng_ext Fy.out.2 pf))
      replace Fp := Lib.hid (Fp.out.ext pf)
      replace Fq := Lib.hid (Fq.out.ext pf)
      have Fo := Lib.hid fo
      have Fe := Lib.hid f
      clear c pf fo f
      replace g := g.keep (below_alloc v5 (.cells (cs .i64 [x, q]).toArray 26))
      have c := g.sharedG Fx.out.1 Fx.out.2 Fy.out.2.1 Fq.out (Rd.lit .i64 26 v5 [x, q] (by simp)) (by omega)
      clear g
      go_wp2_with fail
      refine c.mono ?_
      rintro e v6 ⟨M6, sh, rfl, g, pf, f⟩
      replace Ftr := Lib.hid (Ftr.out.ext pf)
      replace Fx := Lib.hid (And.intro (sec_ext Fx.out.1 pf) (rng_ext Fx.out.2 pf))
      replace Fy := Lib.hid (And.intro (sec_ext Fy.out.1 pf) (rng_ext Fy.out.2 pf))
      replace Fp := Lib.hid (Fp.out.ext pf)
      replace Fq := Lib.hid (Fq.out.ext pf)
      replace Fo := Lib.hid (Fo.out.ext pf)
      replace Fe := Lib.hid (Fe.out.ext pf)
      have Fsh := Lib.hid f
      clear c pf f
      have c := g.shakenG Fe.out.rng ⟨Fsh.out.pos, Fsh.out.le⟩ (by omega)
      clear g
      go_wp2_with fail
      refine c.mono ?_
      rintro e v7 ⟨M7, s, rfl, g, pf, ⟨r, fr, f⟩⟩
      replace Ftr := Lib.hid (Ftr.out.ext pf)
      replace Fx := Lib.hid (And.intro (sec_ext Fx.out.1 pf) (rng_ext Fx.out.2 pf))
      replace Fy := Lib.hid (And.intro (sec_ext Fy.out.1 pf) (rng_ext Fy.out.2 pf))
      replace Fp := Lib.hid (Fp.out.ext pf)
      replace Fq := Lib.hid (Fq.out.ext pf)
      replace Fo := Lib.hid (Fo.out.ext pf)
      replace Fe := Lib.hid (Fe.out.ext pf)
      replace Fsh := Lib.hid (Fsh.out.ext pf)
      have Fr := Lib.hid fr
      have Fs := Lib.hid f
      clear c pf fr f
      have c := g.mainG Fs.out.rng (by omega)
      clear g
      go_wp2_with fail
      refine c.mono ?_
      rintro e v8 ⟨M8, m, rfl, g, pf, f⟩
      replace Ftr := Lib.hid (Ftr.out.ext pf)
      replace Fx := Lib.hid (And.intro (sec_ext Fx.out.1 pf) (rng_ext Fx.out.2 pf))
      replace Fy := Lib.hid (And.intro (sec_ext Fy.out.1 pf) (rng_ext Fy.out.2 pf))
      replace Fp := Lib.hid (Fp.out.ext pf)
      replace Fq := Lib.hid (Fq.out.ext pf)
      replace Fo := Lib.hid (Fo.out.ext pf)
      replace Fe := Lib.hid (Fe.out.ext pf)
      replace Fsh := Lib.hid (Fsh.out.ext pf)
      replace Fr := Lib.hid (Fr.out.ext pf)
      replace Fs := Lib.hid (Fs.out.ext pf)
      have Fm := Lib.hid f
      clear c pf f
      have c := g.shakenTrafficG Fs.out.rng Ftr.out.rng (by omega)
      clear g
      go_wp2_with fail
      refine c.mono ?_
      rintro e v9 ⟨M9, c1, s1, rfl, g, pf, ⟨f, f2⟩⟩
      replace Ftr := Lib.hid (Ftr.out.ext pf)
      replace Fx := Lib.hid (And.intro (sec_ext Fx.out.1 pf) (rng_ext Fx.out.2 pf))
      replace Fy := Lib.hid (And.intro (sec_ext Fy.out.1 pf) (rng_ext Fy.out.2 pf))
      replace Fp := Lib.hid (Fp.out.ext pf)
      replace Fq := Lib.hid (Fq.out.ext pf)
      replace Fo := Lib.hid (Fo.out.ext pf)
      replace Fe := Lib.hid (Fe.out.ext pf)
      replace Fsh := Lib.hid (Fsh.out.ext pf)
      replace Fr := Lib.hid (Fr.out.ext pf)
      replace Fs := Lib.hid (Fs.out.ext pf)
      replace Fm := Lib.hid (Fm.out.ext pf)
      have Fc1 := Lib.hid f
      have Fs1 := Lib.hid f2
      clear c pf f f2
      have c := g.mainTrafficG Fm.out.rng Ftr.out.rng (by omega)
      clear g
      go_wp2_with fail
      refine c.mono ?_
      rintro e v10 ⟨M10, c2, s2, rfl, g, pf, ⟨f, f2⟩⟩
      replace Ftr := Lib.hid (Ftr.out.ext pf)
      replace Fx := Lib.hid (And.intro (sec_ext Fx.out.1 pf) (rng_ext Fx.out.2 pf))
      replace Fy := Lib.hid (And.intro (sec_ext Fy.out.1 pf) (rng_ext Fy.out.2 pf))
      replace Fp := Lib.hid (Fp.out.ext pf)
      replace Fq := Lib.hid (Fq.out.ext pf)
      replace Fo := Lib.hid (Fo.out.ext pf)
      replace Fe := Lib.hid (Fe.out.ext pf)
      replace Fsh := Lib.hid (Fsh.out.ext pf)
      replace Fr := Lib.hid (Fr.out.ext pf)
      replace Fs := Lib.hid (Fs.out.ext pf)
      replace Fm := Lib.hid (Fm.out.ext pf)
      replace Fc1 := Lib.hid (Fc1.out.ext pf)
      replace Fs1 := Lib.hid (Fs1.out.ext pf)
      have Fc2 := Lib.hid f
      have Fs2 := Lib.hid f2
      clear c pf f f2
      have c := g.firstG (HGV.out.below g.st.bel) (by have := HL.out; omega) (by omega)
      clear g
      go_wp2_with fail
      refine c.mono ?_
      rintro e v11 ⟨M11, a, b, rfl, g, pf, ⟨gg, fg, f, f2⟩⟩
      replace Ftr := Lib.hid (Ftr.out.ext pf)
      replace Fx := Lib.hid (And.intro (sec_ext Fx.out.1 pf) (rng_ext Fx.out.2 pf))
      replace Fy := Lib.hid (And.intro (sec_ext Fy.out.1 pf) (rng_ext Fy.out.2 pf))
      replace Fp := Lib.hid (Fp.out.ext pf)
      replace Fq := Lib.hid (Fq.out.ext pf)
      replace Fo := Lib.hid (Fo.out.ext pf)
      replace Fe := Lib.hid (Fe.out.ext pf)
      replace Fsh := Lib.hid (Fsh.out.ext pf)
      replace Fr := Lib.hid (Fr.out.ext pf)
      replace Fs := Lib.hid (Fs.out.ext pf)
      replace Fm := Lib.hid (Fm.out.ext pf)
      replace Fc1 := Lib.hid (Fc1.out.ext pf)
      replace Fs1 := Lib.hid (Fs1.out.ext pf)
      replace Fc2 := Lib.hid (Fc2.out.ext pf)
      replace Fs2 := Lib.hid (Fs2.out.ext pf)
      have Fg := Lib.hid fg
      have Fa := Lib.hid f
      have Fb := Lib.hid f2
      clear c pf fg f f2
      have c := g.finishedG Fc1.out.rng Ftr.out.rng (by omega)
      clear g
      go_wp2_with fail
      refine c.mono ?_
      rintro e v12 ⟨M12, f1, rfl, g, pf, f⟩
      replace Ftr := Lib.hid (Ftr.out.ext pf)
      replace Fx := Lib.hid (And.intro (sec_ext Fx.out.1 pf) (rng_ext Fx.out.2 pf))
      replace Fy := Lib.hid (And.intro (sec_ext Fy.out.1 pf) (rng_ext Fy.out.2 pf))
      replace Fp := Lib.hid (Fp.out.ext pf)
      replace Fq := Lib.hid (Fq.out.ext pf)
      replace Fo := Lib.hid (Fo.out.ext pf)
      replace Fe := Lib.hid (Fe.out.ext pf)
      replace Fsh := Lib.hid (Fsh.out.ext pf)
      replace Fr := Lib.hid (Fr.out.ext pf)
      replace Fs := Lib.hid (Fs.out.ext pf)
      replace Fm := Lib.hid (Fm.out.ext pf)
      replace Fc1 := Lib.hid (Fc1.out.ext pf)
      replace Fs1 := Lib.hid (Fs1.out.ext pf)
      replace Fc2 := Lib.hid (Fc2.out.ext pf)
      replace Fs2 := Lib.hid (Fs2.out.ext pf)
      replace Fg := Lib.hid (Fg.out.ext pf)
      replace Fa := Lib.hid (Fa.out.ext pf)
      replace Fb := Lib.hid (Fb.out.ext pf)
      have Ff1 := Lib.hid f
      clear c pf f
      have c := g.finishedG Fs1.out.rng Ftr.out.rng (by omega)
      clear g
      go_wp2_with fail
      refine c.mono ?_
      rintro e v13 ⟨M13, f2, rfl, g, pf, f⟩
      replace Ftr := Lib.hid (Ftr.out.ext pf)
      replace Fx := Lib.hid (And.intro (sec_ext Fx.out.1 pf) (rng_ext Fx.out.2 pf))
      replace Fy := Lib.hid (And.intro (sec_ext Fy.out.1 pf) (rng_ext Fy.out.2 pf))
      replace Fp := Lib.hid (Fp.out.ext pf)
      replace Fq := Lib.hid (Fq.out.ext pf)
      replace Fo := Lib.hid (Fo.out.ext pf)
      replace Fe := Lib.hid (Fe.out.ext pf)
      replace Fsh := Lib.hid (Fsh.out.ext pf)
      replace Fr := Lib.hid (Fr.out.ext pf)
      replace Fs := Lib.hid (Fs.out.ext pf)
      replace Fm := Lib.hid (Fm.out.ext pf)
      replace Fc1 := Lib.hid (Fc1.out.ext pf)
      replace Fs1 := Lib.hid (Fs1.out.ext pf)
      replace Fc2 := Lib.hid (Fc2.out.ext pf)
      replace Fs2 := Lib.hid (Fs2.out.ext pf)
      replace Fg := Lib.hid (Fg.out.ext pf)
      replace Fa := Lib.hid (Fa.out.ext pf)
      replace Fb := Lib.hid (Fb.out.ext pf)
      replace Ff1 := Lib.hid (Ff1.out.ext pf)
      have Ff2 := Lib.hid f
      clear c pf f
      cases kn with
      | false =>
        have oB := own_lit .i64 26 v13 [p, q, tr, f1, f2] (by simp)
        replace g := g.keep (below_alloc v13 (.cells (cs .i64 [p, q, tr, f1, f2]).toArray 26))
        go_wp2_with fail
        obtain ⟨gB, curB, gG, kB⟩ := g.beside (k := 4) oB
        clear g
        have c := gG.resumeG Fm.out.rng Ftr.out.rng (by omega)
        clear gG
        refine c.mono ?_
        rintro e v14 ⟨M14, rs, rfl, g, pf, f⟩
        replace Ftr := Lib.hid (Ftr.out.ext pf)
        replace Fx := Lib.hid (And.intro (sec_ext Fx.out.1 pf) (rng_ext Fx.out.2 pf))
        replace Fy := Lib.hid (And.intro (sec_ext Fy.out.1 pf) (rng_ext Fy.out.2 pf))
        replace Fp := Lib.hid (Fp.out.ext pf)
        replace Fq := Lib.hid (Fq.out.ext pf)
        replace Fo := Lib.hid (Fo.out.ext pf)
        replace Fe := Lib.hid (Fe.out.ext pf)
        replace Fsh := Lib.hid (Fsh.out.ext pf)
        replace Fr := Lib.hid (Fr.out.ext pf)
        replace Fs := Lib.hid (Fs.out.ext pf)
        replace Fm := Lib.hid (Fm.out.ext pf)
        replace Fc1 := Lib.hid (Fc1.out.ext pf)
        replace Fs1 := Lib.hid (Fs1.out.ext pf)
        replace Fc2 := Lib.hid (Fc2.out.ext pf)
        replace Fs2 := Lib.hid (Fs2.out.ext pf)
        replace Fg := Lib.hid (Fg.out.ext pf)
        replace Fa := Lib.hid (Fa.out.ext pf)
        replace Fb := Lib.hid (Fb.out.ext pf)
        replace Ff1 := Lib.hid (Ff1.out.ext pf)
        replace Ff2 := Lib.hid (Ff2.out.ext pf)
        have SC : Sch M14 x y p q tr o e0 sh r s m c1 s1 c2 s2 f1 f2 rs ms := ⟨Fx.out.1, Fx.out.2, Fy.out.1, Fy.out.2, Fp.out, Fq.out, Ftr.out, Fo.out, Fe.out, Fsh.out, Fr.out, Fs.out, Fm.out, Fc1.out, Fs1.out, Fc2.out, Fs2.out, Ff1.out, Ff2.out, f⟩
        have HS : Hid (∀ z ∈ [s, m, c1, s1, c2, s2, rs], ¬ Der M14 (fun y => y ∈ [p, q, tr, f1, f2]) false z) := Lib.hid SC.no
        have hl := g.len
        have HWL : Hid (∀ z ∈ [s, m, c1, s1, c2, s2, rs], (Lit.int .i64 z).wf = true) := Lib.hid (by
          intro z hz
          simp only [List.mem_cons, List.not_mem_nil, or_false] at hz
          rcases hz with rfl | rfl | rfl | rfl | rfl | rfl | rfl
          · exact wfN Fs.out.rng hl (by omega)
          · exact wfN Fm.out.rng hl (by omega)
          · exact wfN Fc1.out.rng hl (by omega)
          · exact wfN Fs1.out.rng hl (by omega)
          · exact wfN Fc2.out.rng hl (by omega)
          · exact wfN Fs2.out.rng hl (by omega)
          · exact wfN f.rng hl (by omega))
        have HWB : Hid (∀ z ∈ [p, q, tr, f1, f2], (Lit.int .i64 z).wf = true) := Lib.hid (by
          intro z hz
          simp only [List.mem_cons, List.not_mem_nil, or_false] at hz
          rcases hz with rfl | rfl | rfl | rfl | rfl
          · exact wfN ⟨Fp.out.pos, Fp.out.le⟩ hl (by omega)
          · exact wfN ⟨Fq.out.pos, Fq.out.le⟩ hl (by omega)
          · exact wfN Ftr.out.rng hl (by omega)
          · exact wfN Ff1.out.rng hl (by omega)
          · exact wfN Ff2.out.rng hl (by omega))
        have HWA := Lib.hid (And.intro (wfN Fa.out.rng hl (by omega)) (wfN Fb.out.rng hl (by omega)))
        have HDA : Hid (Der M14 (fun y => y ∈ ([] : List Int)) false a ∧ Der M14 (fun y => y ∈ ([] : List Int)) false b) := Lib.hid ⟨Fa.out.der (der_text Fg.out), Fb.out.der (der_text Fg.out)⟩
        have rB := (Rd.of_own (kB v14 (g.st.own _ List.mem_cons_self))).1
        have bL := below_alloc v14 (.cells (cs .i64 [s, m, c1, s1, c2, s2, rs]).toArray 26)
        have rL := Rd.lit .i64 26 v14 [s, m, c1, s1, c2, s2, rs] (by simp)
        replace g := g.keep bL
        replace rB := rB.below bL
        obtain ⟨W5, hW5⟩ : ∃ W5, v14.alloc (.cells #[.int .i64 s, .int .i64 m, .int .i64 c1, .int .i64 s1, .int .i64 c2, .int .i64 s2, .int .i64 rs] 26) = W5 := ⟨_, rfl⟩
        have hW6 : v14.alloc (.cells (cs .i64 [s, m, c1, s1, c2, s2, rs]).toArray 26) = W5 := hW5
        rw [hW6] at g rB rL
        have HW5 := Lib.hid hW5
        have HR := Lib.hid (And.intro rB rL)
        have HG := Lib.hid g
        clear c pf f SC hl rB bL rL g kB hW6 Ftr Fx Fy Fp Fq Fo Fe Fsh Fr Fs Fm Fc1 Fs1 Fc2 Fs2 Fg Fa Fb Ff1 Ff2
        go_wp2_with fail
        clear hW5
        go_loopw [24] (fun i wr => ∃ j : Nat, i = .int .i64 j ∧ j ≤ 7 ∧ Hid (Gd w wr tb mb M14 (60 + 1 + 1 + 1 + 1 + 4 + 1 + 4 + 3 + 6 + 6 + 7 + 4 + 4 + 3) ((gB, .cells curB 26 (0, 0)) :: []) ∧ Below W5.heap.size W5 wr)) (fun i _ => 7 - (intOf i).toNat)
        case atStart =>
          have hW5 := HW5.out
          subst hW5
          exact ⟨0, rfl, by omega, Lib.hid ⟨HG.out, Below.refl _ _⟩⟩
        case round =>
          obtain ⟨j, rfl, hj, hT⟩ := hrel
          by_cases hlt : j < 7
          · have hi : (j : Int) < 7 := by omega
            have hzm : [s, m, c1, s1, c2, s2, rs].getD j 0 ∈ [s, m, c1, s1, c2, s2, rs] := by rw [List.getD_eq_getElem?_getD, List.getElem?_eq_getElem (by simpa using hlt)]; exact List.getElem_mem _
            obtain ⟨_, _, hv, _, _, _, hc⟩ := HR.out.2.below hT.out.2
            cases hv
            replace hc := hc _ rfl j (by simpa using hlt)
            rw [Addr.add_lit, Nat.zero_add] at hc
            generalize [s, m, c1, s1, c2, s2, rs].getD j 0 = z at hc hzm
            have c := hT.out.1.canB (by omega) (HR.out.1.below hT.out.2) HWB.out (HWL.out z hzm)
            have HN := Lib.hid (HS.out z hzm)
            clear hzm
            go_wp2_with fail
            refine c.mono ?_
            rintro e w6 ⟨bb, rfl, hbb, g6, b6⟩
            obtain rfl : bb = false := by rw [← Bool.not_eq_true, hbb]; exact HN.out
            have H6 := Lib.hid (And.intro g6 (hT.out.2.trans (b6.mono hT.out.2.size)))
            clear c hbb g6 b6 hc hT
            go_wp2_with fail
            go_roundw
            case rel => exact ⟨j + 1, by go_num, by omega, H6⟩
            case measure => simp [intOf]; omega
          · obtain rfl : j = 7 := by omega
            have c := hT.out.1.canB (ls := []) (by omega) (Rd.nil .i64 wr) (fun y hy => by cases hy) HWA.out.1
            clear hT hj hlt
            go_wp2_with fail
            refine c.mono ?_
            rintro e w6 ⟨bb, rfl, hbb, g6, -⟩
            obtain rfl : bb = true := hbb.2 HDA.out.1
            have c2 := g6.canB (ls := []) (by omega) (Rd.nil .i64 w6) (fun y hy => by cases hy) HWA.out.2
            clear c hbb g6
            go_wp2_with fail
            refine c2.mono ?_
            rintro e w7 ⟨bb, rfl, hbb, g7, -⟩
            obtain rfl : bb = true := hbb.2 HDA.out.2
            have B7 := Lib.hid g7.st.bel
            clear c2 hbb g7
            go_wp2_with fail
            refine (awake15 w7).mono ?_
            rintro e w8 ⟨rfl, b8⟩
            have B8 := Lib.hid (B7.out.trans (b8.mono B7.out.size))
            clear b8
            go_wp2_with fail
            go_ret
            exact ⟨rfl, B8.out⟩
      | true =>
        have oB := own_lit .i64 26 v13 [p, q, tr, f1, f2] (by simp)
        have bB := ((Below.refl v13.heap.size v13).alloc (Nat.le_refl _) (.cells (cs .i64 [p, q, tr, f1, f2]).toArray 26)).alloc (by simp) (.cells (cs .i64 [x]).toArray 26)
        have rX := Rd.lit .i64 26 (v13.alloc (.cells (cs .i64 [p, q, tr, f1, f2]).toArray 26)) [x] (by simp)
        rw [World.size_alloc] at rX
        go_wp2_with (at_builtin; go_loud (refine wpList_append_ints .i64 26 8 (.tmp 112) (.tmp 114) 31 rfl rfl info32 Try.underlying31 v13.heap.size _ 5 [p, q, tr, f1, f2] rfl (own_alloc oB _) _ [x] rfl rX (by simp) (by simp) bB.size ?_; intro vA wA oA bA gA; replace oA : wA.ownsRow v13.heap.size 26 1 vA 6 (cs .i64 [p, q, tr, f1, f2, x]) := oA; obtain ⟨a5, c5, rfl, _, _⟩ := own_shape oA; have BA := Lib.hid (bB.trans bA); have OA := Lib.hid oA; clear oA bA gA oB bB rX))
        replace g := g.keep BA.out
        obtain ⟨gB, curB, gG, kB⟩ := g.beside (k := 5) OA.out
        clear g
        have c := gG.resumeG Fm.out.rng Ftr.out.rng (by omega)
        clear gG
        refine c.mono ?_
        rintro e v14 ⟨M14, rs, rfl, g, pf, f⟩
        replace Ftr := Lib.hid (Ftr.out.ext pf)
        replace Fx := Lib.hid (And.intro (sec_ext Fx.out.1 pf) (rng_ext Fx.out.2 pf))
        replace Fy := Lib.hid (And.intro (sec_ext Fy.out.1 pf) (rng_ext Fy.out.2 pf))
        replace Fp := Lib.hid (Fp.out.ext pf)
        replace Fq := Lib.hid (Fq.out.ext pf)
        replace Fo := Lib.hid (Fo.out.ext pf)
        replace Fe := Lib.hid (Fe.out.ext pf)
        replace Fsh := Lib.hid (Fsh.out.ext pf)
        replace Fr := Lib.hid (Fr.out.ext pf)
        replace Fs := Lib.hid (Fs.out.ext pf)
        replace Fm := Lib.hid (Fm.out.ext pf)
        replace Fc1 := Lib.hid (Fc1.out.ext pf)
        replace Fs1 := Lib.hid (Fs1.out.ext pf)
        replace Fc2 := Lib.hid (Fc2.out.ext pf)
        replace Fs2 := Lib.hid (Fs2.out.ext pf)
        replace Fg := Lib.hid (Fg.out.ext pf)
        replace Fa := Lib.hid (Fa.out.ext pf)
        replace Fb := Lib.hid (Fb.out.ext pf)
        replace Ff1 := Lib.hid (Ff1.out.ext pf)
        replace Ff2 := Lib.hid (Ff2.out.ext pf)
        have SC : Sch M14 x y p q tr o e0 sh r s m c1 s1 c2 s2 f1 f2 rs ms := ⟨Fx.out.1, Fx.out.2, Fy.out.1, Fy.out.2, Fp.out, Fq.out, Ftr.out, Fo.out, Fe.out, Fsh.out, Fr.out, Fs.out, Fm.out, Fc1.out, Fs1.out, Fc2.out, Fs2.out, Ff1.out, Ff2.out, f⟩
        have HS : Hid (∀ z ∈ [s, m, c1, s1, c2, s2, rs], Der M14 (fun y => y ∈ [p, q, tr, f1, f2, x]) false z) := Lib.hid SC.yes
        have hl := g.len
        have HWL : Hid (∀ z ∈ [s, m, c1, s1, c2, s2, rs], (Lit.int .i64 z).wf = true) := Lib.hid (by
          intro z hz
          simp only [List.mem_cons, List.not_mem_nil, or_false] at hz
          rcases hz with rfl | rfl | rfl | rfl | rfl | rfl | rfl
          · exact wfN Fs.out.rng hl (by omega)
          · exact wfN Fm.out.rng hl (by omega)
          · exact wfN Fc1.out.rng hl (by omega)
          · exact wfN Fs1.out.rng hl (by omega)
          · exact wfN Fc2.out.rng hl (by omega)
          · exact wfN Fs2.out.rng hl (by omega)
          · exact wfN f.rng hl (by omega))
        have HWB : Hid (∀ z ∈ [p, q, tr, f1, f2, x], (Lit.int .i64 z).wf = true) := Lib.hid (by
          intro z hz
          simp only [List.mem_cons, List.not_mem_nil, or_false] at hz
          rcases hz with rfl | rfl | rfl | rfl | rfl | rfl
          · exact wfN ⟨Fp.out.pos, Fp.out.le⟩ hl (by omega)
          · exact wfN ⟨Fq.out.pos, Fq.out.le⟩ hl (by omega)
          · exact wfN Ftr.out.rng hl (by omega)
          · exact wfN Ff1.out.rng hl (by omega)
          · exact wfN Ff2.out.rng hl (by omega)
          · exact wfN Fx.out.2 hl (by omega))
        have HWA := Lib.hid (And.intro (wfN Fa.out.rng hl (by omega)) (wfN Fb.out.rng hl (by omega)))
        have HDA : Hid (Der M14 (fun y => y ∈ ([] : List Int)) false a ∧ Der M14 (fun y => y ∈ ([] : List Int)) false b) := Lib.hid ⟨Fa.out.der (der_text Fg.out), Fb.out.der (der_text Fg.out)⟩
        have rB := (Rd.of_own (kB v14 (g.st.own _ List.mem_cons_self))).1
        have bL := below_alloc v14 (.cells (cs .i64 [s, m, c1, s1, c2, s2, rs]).toArray 26)
        have rL := Rd.lit .i64 26 v14 [s, m, c1, s1, c2, s2, rs] (by simp)
        replace g := g.keep bL
        replace rB := rB.below bL
        obtain ⟨W5, hW5⟩ : ∃ W5, v14.alloc (.cells #[.int .i64 s, .int .i64 m, .int .i64 c1, .int .i64 s1, .int .i64 c2, .int .i64 s2, .int .i64 rs] 26) = W5 := ⟨_, rfl⟩
        have hW6 : v14.alloc (.cells (cs .i64 [s, m, c1, s1, c2, s2, rs]).toArray 26) = W5 := hW5
        rw [hW6] at g rB rL
        have HW5 := Lib.hid hW5
        have HR := Lib.hid (And.intro rB rL)
        have HG := Lib.hid g
        clear c pf f SC hl rB bL rL g kB hW6 Ftr Fx Fy Fp Fq Fo Fe Fsh Fr Fs Fm Fc1 Fs1 Fc2 Fs2 Fg Fa Fb Ff1 Ff2
        clear BA OA
        go_wp2_with fail
        clear hW5
        go_loopw [24] (fun i wr => ∃ j : Nat, i = .int .i64 j ∧ j ≤ 7 ∧ Hid (Gd w wr tb mb M14 (60 + 1 + 1 + 1 + 1 + 4 + 1 + 4 + 3 + 6 + 6 + 7 + 4 + 4 + 3) ((gB, .cells curB 26 (0, 0)) :: []) ∧ Below W5.heap.size W5 wr)) (fun i _ => 7 - (intOf i).toNat)
        case atStart =>
          have hW5 := HW5.out
          subst hW5
          exact ⟨0, rfl, by omega, Lib.hid ⟨HG.out, Below.refl _ _⟩⟩
        case round =>
          obtain ⟨j, rfl, hj, hT⟩ := hrel
          by_cases hlt : j < 7
          · have hi : (j : Int) < 7 := by omega
            have hzm : [s, m, c1, s1, c2, s2, rs].getD j 0 ∈ [s, m, c1, s1, c2, s2, rs] := by rw [List.getD_eq_getElem?_getD, List.getElem?_eq_getElem (by simpa using hlt)]; exact List.getElem_mem _
            obtain ⟨_, _, hv, _, _, _, hc⟩ := HR.out.2.below hT.out.2
            cases hv
            replace hc := hc _ rfl j (by simpa using hlt)
            rw [Addr.add_lit, Nat.zero_add] at hc
            generalize [s, m, c1, s1, c2, s2, rs].getD j 0 = z at hc hzm
            have c := hT.out.1.canB (by omega) (HR.out.1.below hT.out.2) HWB.out (HWL.out z hzm)
            have HN := Lib.hid (HS.out z hzm)
            clear hzm
            go_wp2_with fail
            refine c.mono ?_
            rintro e w6 ⟨bb, rfl, hbb, g6, b6⟩
            obtain rfl : bb = true := hbb.2 HN.out
            have H6 := Lib.hid (And.intro g6 (hT.out.2.trans (b6.mono hT.out.2.size)))
            clear c hbb g6 b6 hc hT
            go_wp2_with fail
            go_roundw
            case rel => exact ⟨j + 1, by go_num, by omega, H6⟩
            case measure => simp [intOf]; omega
          · obtain rfl : j = 7 := by omega
            have c := hT.out.1.canB (ls := []) (by omega) (Rd.nil .i64 wr) (fun y hy => by cases hy) HWA.out.1
            clear hT hj hlt
            go_wp2_with fail
            refine c.mono ?_
            rintro e w6 ⟨bb, rfl, hbb, g6, -⟩
            obtain rfl : bb = true := hbb.2 HDA.out.1
            have c2 := g6.canB (ls := []) (by omega) (Rd.nil .i64 w6) (fun y hy => by cases hy) HWA.out.2
            clear c hbb g6
            go_wp2_with fail
            refine c2.mono ?_
            rintro e w7 ⟨bb, rfl, hbb, g7, -⟩
            obtain rfl : bb = true := hbb.2 HDA.out.2
            have B7 := Lib.hid g7.st.bel
            clear c2 hbb g7
            go_wp2_with fail
            refine (awake15 w7).mono ?_
            rintro e w8 ⟨rfl, b8⟩
            have B8 := Lib.hid (B7.out.trans (b8.mono B7.out.size))
            clear b8
            go_wp2_with fail
            go_ret
            exact ⟨rfl, B8.out⟩
#print axioms ssec_walk
end Go.Proofs.Ytmplcibaoanlnaa
namespace Go.Proofs.Ytmplcibaoanlnaa
open Go Go.RowKit

set_option maxRecDepth 30000 in
theorem ssec_any {w : World} {gv av : Value} {zg : List Int} {qa : List (Value × List Int)} (hg : Rd .u8 w gv zg) (ha : Rl w av qa) (tk : Bool) :
    Calls Try.prog 3 #[gv, av, .bool tk] w fun e w' => e = .returned (.bool true) ∧ Below w.heap.size w w' := by
  by_cases h1 : zg.length ≤ 50
  · by_cases h2 : qa.length ≤ 10
    · exact ssec_walk hg ha h1 h2
    · obtain ⟨aa, ac, rfl, _⟩ := ha.shape
      obtain ⟨ga, gc, rfl, _⟩ := hg
      have t0 : decide ((50 : Int) < (zg.length : Int)) = false := decide_eq_false (by omega)
      have t1 : decide ((10 : Int) < (qa.length : Int)) = true := decide_eq_true (by omega)
      clear ha h1 h2
      go_enter Try.func3, Try.ntmps3
      go_wp2_with fail
      go_ret
      exact ⟨rfl, Below.refl _ _⟩
  · obtain ⟨aa, ac, rfl, _⟩ := ha.shape
    obtain ⟨ga, gc, rfl, _⟩ := hg
    have t0 : decide ((50 : Int) < (zg.length : Int)) = true := decide_eq_true (by omega)
    clear ha h1
    go_enter Try.func3, Try.ntmps3
    go_wp2_with fail
    go_ret
    exact ⟨rfl, Below.refl _ _⟩
#print axioms ssec_any
end Go.Proofs.Ytmplcibaoanlnaa
