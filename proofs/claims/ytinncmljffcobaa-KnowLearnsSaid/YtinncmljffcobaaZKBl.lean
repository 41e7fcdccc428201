/- A row of bools in a block of its own. -/
import Derived.Test.YtinncmljffcobaaZKDo
import Derived.Test.YtinncmljffcobaaZPkY
import Derived.Test.YtinncmljffcobaaZTwicePure
import Derived.Test.YtinncmljffcobaaZKTm
namespace Go.Proofs.Ytinncmljffcobaa
open Go Go.RowKit

/-- What steps make stays as tables are. -/
theorem Good.put {N : List Nd} (h : Good N) {n : Nd} (ha : idxN 1 N n = none → Good (N ++ [n])) : Good (putN N n).2 := by
  cases hc : idxN 1 N n with
  | some c => rw [putN_old hc]; exact h
  | none => rw [putN_new hc]; exact ha hc
theorem Good.do {N : List Nd} (h : Good N) (hr : N.length < 65536) (k : Int) (t : ByteArray) (xs : List Int) : Good (kdoN N k t xs) := by
  unfold kdoN
  split
  · exact h.put fun _ => h.text t hr
  · split
    · exact h.put fun _ => h.secret hr
    · unfold makeN
      split
      · rename_i hf
        exact h.put fun hi => h.make hf hi hr
      · exact h

/-- A step. -/
structure KStep where
  k : Int
  t : ByteArray
  ao : Option Addr
  cp : Nat
  xs : List Int
/-- A step lies at an address. -/
def KStepAt (w : World) (a : Addr) (s : KStep) : Prop :=
  w.cell? (a.add 0) = some (.int .i64 s.k) ∧ w.cell? (a.add 1) = some (.string s.t) ∧ w.cell? (a.add 2) = some (.slice s.ao s.xs.length s.cp) ∧ Rd .i64 w (.slice s.ao s.xs.length s.cp) s.xs
/-- The value reads as these steps. -/
def KSteps (w : World) (v : Value) (l : List KStep) : Prop :=
  ∃ (ao : Option Addr) (cap : Nat), v = .slice ao l.length cap ∧ l.length ≤ cap ∧ cap ≤ maxLen ∧ (ao = none → cap = 0) ∧ ∀ a, ao = some a → ∀ i s, l[i]? = some s → KStepAt w (a.add (i * 3)) s
theorem kstep_below {w w' : World} {a : Addr} {s : KStep} (h : KStepAt w a s) (hb : Below w.heap.size w w') : KStepAt w' a s := by
  obtain ⟨h0, h1, h2, h4⟩ := h
  exact ⟨by rw [hb.cell (cell_lt h0)]; exact h0, by rw [hb.cell (cell_lt h1)]; exact h1, by rw [hb.cell (cell_lt h2)]; exact h2, h4.below hb⟩
theorem KSteps.below {w w' : World} {v : Value} {l : List KStep} (h : KSteps w v l) (hb : Below w.heap.size w w') : KSteps w' v l := by
  obtain ⟨ao, cap, e, h1, h2, h3, h4⟩ := h
  exact ⟨ao, cap, e, h1, h2, h3, fun a ha i s hi => kstep_below (h4 a ha i s hi) hb⟩
theorem kstep_cells {w : World} {b off : Nat} {s : KStep} (h : KStepAt w ⟨b, off, none⟩ s) :
    w.cell? ⟨b, off, none⟩ = some (.int .i64 s.k) ∧ w.cell? ⟨b, off + 1, none⟩ = some (.string s.t) ∧ w.cell? ⟨b, off + 2, none⟩ = some (.slice s.ao s.xs.length s.cp) := by
  obtain ⟨h0, h1, h2, _⟩ := h
  rw [Addr.add_lit] at h0 h1 h2
  exact ⟨h0, h1, h2⟩
/-- The step at a place. -/
theorem KSteps.at {w : World} {v : Value} {l : List KStep} (h : KSteps w v l) {j : Nat} (hj : j < l.length) : ∃ b off cap, v = .slice (some ⟨b, off, none⟩) l.length cap ∧ l.length ≤ cap ∧ cap ≤ maxLen ∧ KStepAt w ⟨b, off + j * 3, none⟩ (l[j]) := by
  obtain ⟨ao, cap, rfl, h1, h2, h3, h4⟩ := h
  cases ao with
  | none => have := h3 rfl; omega
  | some a =>
    obtain ⟨b, off, spot⟩ := a
    have hs := h4 _ rfl j _ (List.getElem?_eq_getElem hj)
    have hsp : spot = none := by
      have := (h4 _ rfl 0 _ (List.getElem?_eq_getElem (by omega))).1
      simpa [Addr.add] using World.cell?_spot this
    subst hsp
    rw [Addr.add_lit] at hs
    exact ⟨b, off, cap, rfl, h1, h2, hs⟩
/-- Few and short ones. -/
def KLt (l : List KStep) (n : Nat) : Prop := l.length ≤ 50 ∧ n ≤ 50 ∧ ∀ s ∈ l, s.t.size ≤ 50 ∧ s.xs.length ≤ 20

/-- What light tells. -/
def KLightP (l : List KStep) (n : Nat) (e : Ending) : Prop := ∃ b, e = .returned (.bool b) ∧ (b = true → KLt l n)
set_option maxRecDepth 20000 in
set_option maxHeartbeats 4000000 in
theorem klight_any {w : World} {v : Value} {l : List KStep} (h : KSteps w v l) {bo : Option Addr} {n cb : Nat} :
    Calls Try.prog 9 #[v, .slice bo n cb] w fun e w' => KLightP l n e ∧ w' = w := by
  have h0 := h
  obtain ⟨ao, cap, rfl, hl1, hl2, hl3, -⟩ := h0
  unfold maxLen at hl2
  by_cases hbig : 50 < l.length ∨ 50 < n
  · have hb : decide ((50 : Int) < (l.length : Int)) = true ∨ (decide ((50 : Int) < (l.length : Int)) = false ∧ decide ((50 : Int) < (n : Int)) = true) := by
      by_cases h1 : 50 < l.length
      · exact .inl (decide_eq_true (by omega))
      · exact .inr ⟨decide_eq_false (by omega), decide_eq_true (by omega)⟩
    clear h hbig hl1 hl2 hl3
    rcases hb with t1 | ⟨t1, t2⟩
    all_goals
      go_enter Try.func9, Try.ntmps9
      go_wp2_with fail
      go_ret
      exact ⟨⟨false, rfl, fun e => (by cases e)⟩, rfl⟩
  · have t1 : decide ((50 : Int) < (l.length : Int)) = false := decide_eq_false (by omega)
    have t2 : decide ((50 : Int) < (n : Int)) = false := decide_eq_false (by omega)
    have HH := Lib.hid h
    have HL := Lib.hid (show l.length ≤ 50 ∧ n ≤ 50 by omega)
    clear h hbig
    go_enter Try.func9, Try.ntmps9
    go_wp2_with fail
    go_loopw [5] (fun i wr => ∃ j : Nat, j ≤ l.length ∧ i = .int .i64 j ∧ wr = w ∧ ∀ s ∈ l.take j, s.t.size ≤ 50 ∧ s.xs.length ≤ 20) (fun i _ => l.length - (intOf i).toNat)
    case atStart => exact ⟨0, Nat.zero_le _, rfl, rfl, fun s hs => by simp at hs⟩
    case round =>
      obtain ⟨j, hj, rfl, rfl, hall⟩ := hrel
      by_cases hlt : j < l.length
      · have hlt' : (j : Int) < (l.length : Int) := by omega
        obtain ⟨b, off, cap', e, _, _, hs⟩ := HH.out.at hlt
        cases e
        obtain ⟨_, c1, c2⟩ := kstep_cells hs
        have HT := Lib.hid (show l.take (j + 1) = l.take j ++ [l[j]] from List.take_succ_eq_append_getElem hlt)
        have HA := Lib.hid hall
        clear hs hall hl1 hl2 hl3
        generalize l[j] = s at *
        obtain ⟨k, t, sa, sc, xs⟩ := s
        simp only at c1 c2
        by_cases ht : 50 < t.size
        · have q1 : decide ((50 : Int) < (t.size : Int)) = true := decide_eq_true (by omega)
          clear ht
          go_wp2_with fail
          go_ret
          exact ⟨⟨false, rfl, fun e => (by cases e)⟩, rfl⟩
        · have q1 : decide ((50 : Int) < (t.size : Int)) = false := decide_eq_false (by omega)
          by_cases hx : 20 < xs.length
          · have q2 : decide ((20 : Int) < (xs.length : Int)) = true := decide_eq_true (by omega)
            clear ht hx
            go_wp2_with fail
            go_ret
            exact ⟨⟨false, rfl, fun e => (by cases e)⟩, rfl⟩
          · have q2 : decide ((20 : Int) < (xs.length : Int)) = false := decide_eq_false (by omega)
            have HTX := Lib.hid (show t.size ≤ 50 ∧ xs.length ≤ 20 by omega)
            have hj50 : j ≤ 50 := by have := HL.out; omega
            clear ht hx
            go_wp2_with fail
            go_roundw
            case rel =>
              refine ⟨j + 1, by omega, by go_num, (by first | rfl | trivial), fun s hs => ?_⟩
              rw [HT.out] at hs
              rcases List.mem_append.1 hs with hs | hs
              · exact HA.out s hs
              · rw [List.mem_singleton] at hs
                subst hs
                exact HTX.out
            case measure => simp [intOf]; omega
      · obtain rfl : j = l.length := by omega
        rw [List.take_length] at hall
        have HA := Lib.hid hall
        clear hall
        go_wp2_with fail
        go_ret
        exact ⟨⟨true, rfl, fun _ => ⟨HL.out.1, HL.out.2, HA.out⟩⟩, rfl⟩

/-- Two new tables. -/
theorem ktwo_new {w w1 : World} {tb mb : Nat} (h : St w w1 tb mb [] []) : Two w (w1.alloc (.cells #[.slice none 0 0] 30)) tb mb w1.heap.size [] :=
  ⟨h.keep (below_alloc _ _), ⟨.slice none 0 0, [], ⟨h.bel.size, heap_alloc_new _ _, World.ownsRow_nil _ _ _ _, (fun p hp => by cases hp), by simp⟩, rfl⟩, fun m hm => by cases hm⟩
set_option maxRecDepth 20000 in
set_option maxHeartbeats 8000000 in
theorem ktable_any {w : World} {v : Value} {l : List KStep} (h : KSteps w v l) {n : Nat} (hl : KLt l n) :
    Calls Try.prog 22 #[v] w fun e w' => ∃ tb mb rb N, e = .returned (.pointer (some ⟨tb, 0, none⟩)) ∧ Two w w' tb mb rb N ∧ Good N ∧ N.length ≤ 50 := by
  have h0 := h
  obtain ⟨ao, cap, rfl, hl1, hl2, hl3, -⟩ := h0
  unfold maxLen at hl2
  have HH := Lib.hid h
  have HL := Lib.hid hl
  clear h hl
  go_enter Try.func22, Try.ntmps22
  go_wp2_with fail
  refine (St.new w).mono ?_
  rintro e w1 ⟨tb, mb, rfl, s1⟩
  have HT0 := Lib.hid (ktwo_new s1)
  clear s1
  go_wp2_with fail
  go_loopw [5] (fun i wr => ∃ (j : Nat) (N : List Nd), j ≤ l.length ∧ i = .int .i64 j ∧ Two w wr tb mb w1.heap.size N ∧ N.length ≤ j ∧ Good N) (fun i _ => l.length - (intOf i).toNat)
  case atStart => exact ⟨0, [], Nat.zero_le _, rfl, HT0.out, Nat.le_refl _, Good.nil⟩
  case round =>
    obtain ⟨j, N, hj, rfl, hT, hN, hg⟩ := hrel
    have HT := Lib.hid hT
    have HG := Lib.hid hg
    have HN := Lib.hid hN
    by_cases hlt : j < l.length
    · have hlt' : (j : Int) < (l.length : Int) := by omega
      obtain ⟨b, off, cap', e, _, _, hs⟩ := (HH.out.below hT.prog.bel).at hlt
      cases e
      obtain ⟨c0, c1, c2⟩ := kstep_cells hs
      have hrd := hs.2.2.2
      have hin := HL.out.2.2 _ (List.getElem_mem hlt)
      have hj50 : j ≤ 50 := by have := HL.out.1; omega
      clear hs hT hg hl1 hl2 hl3
      generalize l[j] = s at *
      obtain ⟨k, t, sa, sc, xs⟩ := s
      simp only at c0 c1 c2 hrd hin
      have hd := kdo_any HT.out (by omega) k t (by omega) hrd hin.2
      clear hrd hin hN
      go_wp2_with fail
      refine hd.mono ?_
      rintro e w2 ⟨rfl, t2, k2⟩
      have HT2 := Lib.hid t2
      clear t2 k2 hd
      go_wp2_with fail
      go_roundw
      case rel => exact ⟨j + 1, _, by omega, by go_num, HT2.out, by have := (kdoN_len N k t xs).2; have := HN.out; omega, HG.out.do (by have := HN.out; omega) k t xs⟩
      case measure => simp [intOf]; omega
    · obtain rfl : j = l.length := by omega
      clear hT hN hg
      go_wp2_with fail
      go_ret
      exact ⟨tb, mb, w1.heap.size, N, rfl, HT.out, HG.out, by have := HN.out; have := HL.out.1; omega⟩
#print axioms klight_any
#print axioms ktable_any
end Go.Proofs.Ytinncmljffcobaa
namespace Go.Proofs.Ytinncmljffcobaa
open Go Go.RowKit

/-- In w there is a mind at M, with the table tp of the nodes N, that was told Bs; what it writes lies at B or above. -/
structure Md (B : Nat) (w : World) (M : Nat) (tp : Value) (N : List Nd) (Bs : Int → Prop) : Prop where
  ex : ∃ (c : Fx) (F : Nat → Prop) (r : Nat → Int → Option Value) (S : MS) (pops : Int → Nat), c.M = M ∧ c.tp = tp ∧ Mnd c w F r S ∧ Tp w F tp N ∧ Mi N Bs S pops ∧ (∀ k, F k → B ≤ k)
theorem Md.below {B : Nat} {w w' : World} {M : Nat} {tp : Value} {N : List Nd} {Bs : Int → Prop} (h : Md B w M tp N Bs) (hb : Below w.heap.size w w') : Md B w' M tp N Bs := by
  obtain ⟨c, F, r, S, pops, h1, h2, h3, h4, h5, h6⟩ := h.ex
  exact ⟨c, F, r, S, pops, h1, h2, h3.below hb, h4.step (Stp.below hb), h5, h6⟩
theorem Md.told {B : Nat} {w : World} {M : Nat} {tp : Value} {N : List Nd} {Bs Cs : Int → Prop} (h : Md B w M tp N Bs) (he : ∀ x, Bs x ↔ Cs x) : Md B w M tp N Cs := by
  have : Bs = Cs := funext fun x => propext (he x)
  rw [← this]; exact h
theorem Md.new {w : World} {tp : Value} {N : List Nd} (hT : Tp w (fun _ => False) tp N) : Calls Try.prog 18 #[tp] w fun e w' => ∃ M, e = .returned (.pointer (some ⟨M, 0, none⟩)) ∧ Md w.heap.size w' M tp N (fun _ => False) ∧ Below w.heap.size w w' :=
  (mnew_any hT).mono fun e w' ⟨he, hm, hb⟩ => by
    have hs1 : Stp (fun _ => False) w (fun k => w.heap.size ≤ k ∧ k < w.heap.size + 4) w' := ⟨hb.os, hb.tape, hb.output, hb.size, fun k hk _ => hb.block k hk, fun k hk => .inr hk.1⟩
    exact ⟨_, he, ⟨_, _, _, _, _, rfl, rfl, hm, hT.step hs1, Mi.zero, fun k hk => hk.1⟩, hb⟩
theorem Md.learn {B : Nat} {w w1 : World} {M : Nat} {tp : Value} {N : List Nd} {Bs : Int → Prop} (h : Md B w M tp N Bs) (hN : Wf N) (hb : Below w.heap.size w w1) {lv : Value} {ls : List Int} (hl : Rd .i64 w1 lv ls) (hwf : ∀ y ∈ ls, (Lit.int .i64 y).wf = true)
    (hout : ∀ (a : Addr) (n cap : Nat), lv = .slice (some a) n cap → a.block < B ∨ w.heap.size ≤ a.block) (hB : B ≤ w.heap.size) :
    Calls Try.prog 19 #[.pointer (some ⟨M, 0, none⟩), lv] w1 fun e w' => e = .returned (.tuple #[]) ∧ Md B w' M tp N (fun y => Bs y ∨ y ∈ ls) ∧ Below B w w' := by
  obtain ⟨c, F, r, S, pops, rfl, rfl, h3, h4, h5, h6⟩ := h.ex
  refine (learn_any (h3.below hb) (h4.step (Stp.below hb)) hN h5 (Cs := fun y => Bs y ∨ y ∈ ls) (fun x hx => .inl hx) ⟨hl, fun _ a n cap e hF => ?_⟩ hwf (fun y hy => .inr hy) (fun y hy => hy)).mono ?_
  · have h1 := h6 _ hF
    have h2 := h3.lt _ hF
    rcases hout a n cap e with e | e <;> omega
  · rintro e w' ⟨he, F', r', S', pops', X, NB, q1, q2, q3, q4⟩
    refine ⟨he, ⟨c.re X NB, F', r', S', pops', rfl, rfl, q1, q2, q3, fun k hk => ?_⟩, (hb.mono hB).trans (q4.toBelow (Nat.le_trans hB hb.size) h6)⟩
    rcases q4.grow k hk with e | e
    · exact h6 k e
    · exact Nat.le_trans hB (Nat.le_trans hb.size e)
theorem Md.can {B : Nat} {w : World} {M : Nat} {tp : Value} {N : List Nd} {Bs : Int → Prop} (h : Md B w M tp N Bs) (hN : Wf N) {x : Int} (hx : (Lit.int .i64 x).wf = true) :
    Calls Try.prog 21 #[.pointer (some ⟨M, 0, none⟩), .int .i64 x] w fun e w' => ∃ b : Bool, e = .returned (.bool b) ∧ (b = true ↔ Der N Bs false x) ∧ Below w.heap.size w w' := by
  obtain ⟨c, F, r, S, pops, rfl, rfl, h3, h4, h5, h6⟩ := h.ex
  exact (canm_any h3 h4 hN hx).mono fun e w' ⟨l, hl, he, hb⟩ => ⟨_, he, h5.can hN hl, hb⟩
theorem Md.knows {B : Nat} {w : World} {M : Nat} {tp : Value} {N : List Nd} {Bs : Int → Prop} (h : Md B w M tp N Bs) (hN : Wf N) :
    Calls Try.prog 20 #[.pointer (some ⟨M, 0, none⟩)] w fun e w' => ∃ (v : Value) (l : List Int), e = .returned v ∧ l.Pairwise (· < ·) ∧ (∀ x, x ∈ l ↔ Der N Bs true x) ∧ Rd .i64 w' v l ∧ (∀ g, v.ownBlock = some g → w.heap.size ≤ g) ∧ Below w.heap.size w w' := by
  obtain ⟨c, F, r, S, pops, rfl, rfl, h3, h4, h5, h6⟩ := h.ex
  exact (knows_any h3 h5.inr hN.few).mono fun e w' ⟨v, l, he, q1, q2, q3, q4, q5⟩ => ⟨v, l, he, q1, fun x => (q2 x).trans (h5.knows hN x), q3, q4, q5⟩
/-- The program's table of both, for a mind. -/
theorem Two.tp {w0 w : World} {tb mb rb : Nat} {N : List Nd} (h : Two w0 w tb mb rb N) : Tp w (fun _ => False) (.pointer (some ⟨tb, 0, none⟩)) N := by
  obtain ⟨nv, ht⟩ := h.prog.tab
  exact ht.at.tp
theorem Two.size {w0 w : World} {tb mb rb : Nat} {N : List Nd} (h : Two w0 w tb mb rb N) : Calls Try.prog 23 #[.pointer (some ⟨tb, 0, none⟩)] w fun e w' => e = .returned (.int .i64 (N.length : Int)) ∧ w = w' := by
  obtain ⟨tv, tx⟩ := h.prog.tab
  exact Tab.size tx.at
theorem Two.look {w0 w : World} {tb mb rb : Nat} {N : List Nd} (h : Two w0 w tb mb rb N) {x : Int} (h1 : 1 ≤ x) (h2 : x ≤ (N.length : Int)) :
    Calls Try.prog 24 #[.pointer (some ⟨tb, 0, none⟩), .int .i64 x] w fun e w' => ∃ (t : ByteArray) (pv : Value), e = .returned (.tuple #[.agg #[.int .i64 (kindN N x), .string t, pv], .bool true]) ∧ w'.ownsRow w.heap.size 42 1 pv (partsN N x).length (cs .i64 (partsN N x)) ∧ Below w.heap.size w w' := by
  obtain ⟨q, n, rfl, hq, hk, hp⟩ := nds_at h1 h2
  obtain ⟨tv, tx⟩ := h.prog.tab
  rw [hk, hp]
  exact (Tab.look tx.at q n hq).mono fun e w' ⟨pv, he, ho, hb⟩ => ⟨_, pv, he, ho, hb⟩
theorem wf_of {x : Int} (h1 : -1 ≤ x) (h2 : x ≤ 65536) : (Lit.int .i64 x).wf = true := wf_small x (by omega) (by omega)
#print axioms Md.learn
#print axioms Two.look
end Go.Proofs.Ytinncmljffcobaa
namespace Go.Proofs.Ytinncmljffcobaa
open Go Go.RowKit

/-- Block G holds the bools f, n of them. -/
def Bl (w : World) (G : Nat) (f : Nat → Bool) (n : Nat) : Prop := ∃ C : Array Value, w.heap[G]? = some (.cells C 4 (0, 0)) ∧ C.size = n ∧ ∀ j, j < n → C[j]? = some (.bool (f j))
theorem Bl.cell {w : World} {G n : Nat} {f : Nat → Bool} (h : Bl w G f n) {j : Nat} (hj : j < n) : w.cell? ⟨G, j, none⟩ = some (.bool (f j)) ∧ w.frozen? ⟨G, j, none⟩ = false ∧ G < w.heap.size := by
  obtain ⟨C, h1, h2, h3⟩ := h
  exact ⟨(cell_of_row _ G j _ _ (0, 0) h1).trans (h3 j hj), by simp [World.frozen?, h1], blk_lt h1⟩
theorem Bl.keep {w w' : World} {G n : Nat} {f : Nat → Bool} (h : Bl w G f n) (hb : w'.heap[G]? = w.heap[G]?) : Bl w' G f n := by
  obtain ⟨C, h1, h2⟩ := h
  exact ⟨C, by rw [hb]; exact h1, h2⟩
theorem Bl.lt {w : World} {G n : Nat} {f : Nat → Bool} (h : Bl w G f n) : G < w.heap.size := by
  obtain ⟨C, h1, h2⟩ := h
  exact blk_lt h1
theorem Bl.below {w w' : World} {G n : Nat} {f : Nat → Bool} (h : Bl w G f n) (hb : Below w.heap.size w w') : Bl w' G f n := h.keep (hb.block _ h.lt)
def upB (f : Nat → Bool) (j : Nat) (b : Bool) : Nat → Bool := fun k => if k = j then b else f k
theorem upB_same (f : Nat → Bool) (j : Nat) (b : Bool) : upB f j b j = b := by unfold upB; rw [if_pos rfl]
theorem upB_other (f : Nat → Bool) {j k : Nat} (b : Bool) (h : k ≠ j) : upB f j b k = f k := by unfold upB; rw [if_neg h]
theorem Bl.set {w : World} {G n : Nat} {f : Nat → Bool} (h : Bl w G f n) {j : Nat} (hj : j < n) (b : Bool) : Bl (w.setCell ⟨G, j, none⟩ (.bool b)) G (upB f j b) n := by
  obtain ⟨C, h1, h2, h3⟩ := h
  refine ⟨_, heap_setCell_same w G j _ _ (.bool b) h1, by simp [h2], fun k hk => ?_⟩
  by_cases e : k = j
  · subst e
    rw [upB_same]
    simp [h2, hk]
  · rw [upB_other f b e, ← h3 k hk]
    simp [Ne.symm e]
theorem info4 : (Try.prog.info? 4).map (fun i => (i.zero, i.size, i.bytes)) = some (some (.bool false), 1, 1) := by kernel_rfl
theorem Bl.made {w : World} {B n : Nat} {g : Nat} (h : w.ownsRow B 4 1 (.slice (some ⟨g, 0, none⟩) n n) n (madeCells (Value.bool false).cells (n * 1)).toList) : Bl w g (fun _ => false) n := by
  obtain ⟨h1, h2, h3, h4⟩ := own_block h
  refine ⟨_, h1, by simpa using h2, fun j hj => ?_⟩
  simp [madeCells, Value.cells, hj, Nat.mod_one]
#print axioms Bl.made
#print axioms Bl.set
end Go.Proofs.Ytinncmljffcobaa
