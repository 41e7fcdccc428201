/- special: what any bytes are, as a list and as a retry: the program and the document tell the same. -/
import Derived.Test.YtjdlmmbkppaenaaQPList
import Derived.Test.YtjdlmmbkppaenaaQListed
import Derived.Test.YtjdlmmbkppaenaaQWrites
namespace Go.Proofs.Ytjdlmmbkppaenaa
open Go Go.RowKit

/-- A list and a word beside it. -/
def LR (T F V : List Int) (x : Value) (w : World) (r : Ending) (w' : World) : Prop := ∃ vt vf vi, r = .returned (.tuple #[.agg #[vt, vf, vi], x]) ∧ (Rd w' vt T ∧ Rd w' vf F ∧ Ri w' vi V) ∧ Below w.heap.size w w'
/-- A retry and a word beside it. -/
def RR (ver : Int) (T F : List Int) (tok tag : Int) (x : Value) (w : World) (r : Ending) (w' : World) : Prop := ∃ vt vf, r = .returned (.tuple #[retryV ver vt vf tok tag, x]) ∧ (Rd w' vt T ∧ Rd w' vf F) ∧ Below w.heap.size w w'
theorem pl_of_own {w : World} {base n : Nat} {v : Value} {zs : List Int} (h : w.ownsRow base 5 1 v n (by8 zs)) : Plain v := by
  rcases h.2 with ⟨rfl, _⟩ | ⟨g, cap, cur, rfl, _⟩
  · exact .inl rfl
  · exact .inr ⟨_, _, _, _, rfl⟩
set_option maxRecDepth 20000 in
set_option maxHeartbeats 4000000 in
theorem reads_some {w0 : World} {ao : Option Addr} {cap : Nat} {zs T F V T' F' : List Int} {eb ec ver tok tag : Int} {ob oc : Bool} (hr : Rd w0 (.slice ao zs.length cap) zs) (hl : zs.length ≤ 300) (hV : V.length ≤ 1000)
    (h1 : eb = 0 ∧ ob = true ∨ eb = 3 ∧ ob = false) (h2 : ec = 0 ∧ oc = true ∨ ec = 3 ∧ oc = false)
    (c1 : ∀ (v2 : Value) (w2 : World), Rd w2 v2 zs → Plain v2 → Calls Try.prog 16 #[v2] w2 fun r w' => LR T F V (.int .i64 eb) w2 r w')
    (c2 : ∀ (w2 : World), Rd w2 (.slice ao zs.length cap) zs → Calls Try.prog 17 #[.slice ao zs.length cap] w2 fun r w' => LR T F V (.bool ob) w2 r w')
    (c3 : ∀ (v2 : Value) (w2 : World), Rd w2 v2 zs → Plain v2 → Calls Try.prog 18 #[v2] w2 fun r w' => RR ver T' F' tok tag (.int .i64 ec) w2 r w')
    (c4 : ∀ (w2 : World), Rd w2 (.slice ao zs.length cap) zs → Calls Try.prog 19 #[.slice ao zs.length cap] w2 fun r w' => RR ver T' F' tok tag (.bool oc) w2 r w') :
    Calls Try.prog 4 #[.slice ao zs.length cap] w0 fun e w' => e = .returned (.bool true) ∧ Below w0.heap.size w0 w' := by
  have hl' : (zs.length : Int) ≤ 300 := by omega
  have HR := Lib.hid hr
  have C1 := Lib.hid c1
  have C2 := Lib.hid c2
  have C3 := Lib.hid c3
  have C4 := Lib.hid c4
  clear c1 c2 c3 c4 hr
  go_enter Try.func4, Try.ntmps4
  go_wp2_with (at_builtin; refine wpList_append_bytes (.tmp 15) (.tmp 16) 22 rfl rfl info5 Try.underlying22 w0.heap.size _ 0 [] rfl (own_fresh w0 5) _ zs rfl (HR.out.alloc _) (by omega) (by simp) ?_; intro v1 w1 hown1 hb1; have hown1 := Lib.hid hown1; have hb1 := Lib.hid ((below_alloc w0 _).trans (hb1.mono (Nat.le_refl _))))
  have hown1 := hown1.out
  rw [List.nil_append] at hown1
  refine (C1.out v1 w1 (Rd.of_own hown1 HR.out.byt).1 (pl_of_own hown1)).mono ?_
  rintro e2 w2 ⟨vt1, vf1, vi1, rfl, ⟨rt1, rf1, ri1⟩, b2⟩
  obtain ⟨at1, dt1, rfl⟩ := rt1.shape
  obtain ⟨af1, df1, rfl⟩ := rf1.shape
  obtain ⟨ai1, di1, rfl⟩ := ri1.shape
  have B2 := Lib.hid (hb1.out.trans (b2.mono hb1.out.size))
  have L2 := Lib.hid (And.intro rt1 (And.intro rf1 ri1))
  clear hown1 rt1 rf1 ri1 b2
  have H3 := Lib.hid (heap_alloc_new w2 (.cells #[.slice at1 T.length dt1, .slice af1 F.length df1, .slice ai1 V.length di1] 30))
  have BX2 := Lib.hid (below_alloc w2 (.cells #[.slice at1 T.length dt1, .slice af1 F.length df1, .slice ai1 V.length di1] 30))
  have S2 : Hid (w2.heap.size < (w2.alloc (.cells #[.slice at1 T.length dt1, .slice af1 F.length df1, .slice ai1 V.length di1] 30)).heap.size) := Lib.hid (by simp)
  have R2 := Lib.hid (HR.out.below (B2.out.trans (BX2.out.mono B2.out.size)))
  go_wp2_with fail
  clear hb1
  obtain ⟨X2, hX2⟩ : ∃ X, w2.alloc (.cells #[.slice at1 T.length dt1, .slice af1 F.length df1, .slice ai1 V.length di1] 30) = X := ⟨_, rfl⟩
  rw [hX2] at H3 BX2 S2 R2 ⊢
  clear hX2
  refine (C2.out X2 R2.out).mono ?_
  rintro e3 w3 ⟨vt2, vf2, vi2, rfl, ⟨rt2, rf2, ri2⟩, b3⟩
  obtain ⟨at2, dt2, rfl⟩ := rt2.shape
  obtain ⟨af2, df2, rfl⟩ := rf2.shape
  obtain ⟨ai2, di2, rfl⟩ := ri2.shape
  have bw : Below w2.heap.size w2 w3 := BX2.out.trans (b3.mono BX2.out.size)
  have B3 := Lib.hid (B2.out.trans (bw.mono B2.out.size))
  have H3 := Lib.hid ((b3.block _ S2.out).trans H3.out)
  have T3 := Lib.hid (Nat.lt_of_lt_of_le S2.out b3.size)
  have L3 := Lib.hid (And.intro (And.intro (L2.out.1.below bw) (And.intro (L2.out.2.1.below bw) (L2.out.2.2.below bw))) (And.intro rt2 (And.intro rf2 ri2)))
  have H5 := Lib.hid (heap_alloc_new w3 (.cells #[.slice at2 T.length dt2, .slice af2 F.length df2, .slice ai2 V.length di2] 25))
  have BX3 := Lib.hid (below_alloc w3 (.cells #[.slice at2 T.length dt2, .slice af2 F.length df2, .slice ai2 V.length di2] 25))
  have S3 : Hid (w3.heap.size < (w3.alloc (.cells #[.slice at2 T.length dt2, .slice af2 F.length df2, .slice ai2 V.length di2] 25)).heap.size) := Lib.hid (by simp)
  have R3 := Lib.hid (HR.out.below (B3.out.trans (BX3.out.mono B3.out.size)))
  clear rt2 rf2 ri2 b3 bw L2 BX2 S2 R2 B2
  have F4 := own_fresh (w3.alloc (.cells #[.slice at2 T.length dt2, .slice af2 F.length df2, .slice ai2 V.length di2] 25)) 5
  rw [World.size_alloc] at F4
  go_wp2_with (at_builtin; refine wpList_append_bytes (.tmp 27) (.tmp 28) 22 rfl rfl info5 Try.underlying22 (w3.heap.size + 1) _ 0 [] rfl F4 _ zs rfl (R3.out.alloc _) (by omega) (by simp) ?_; intro v4 w4 hown4 hb4; have hown4 := Lib.hid hown4; have hb4 := Lib.hid ((below_alloc (w3.alloc (.cells #[.slice at2 T.length dt2, .slice af2 F.length df2, .slice ai2 V.length di2] 25)) _).trans (hb4.mono (Nat.le_of_eq (World.size_alloc _ _)))))
  have hown4 := hown4.out
  rw [List.nil_append] at hown4
  refine (C3.out v4 w4 (Rd.of_own hown4 HR.out.byt).1 (pl_of_own hown4)).mono ?_
  rintro e5 w5 ⟨wt1, wf1, rfl, ⟨qt1, qf1⟩, b5⟩
  obtain ⟨ct1, kt1, rfl⟩ := qt1.shape
  obtain ⟨cf1, kf1, rfl⟩ := qf1.shape
  have bx5 : Below (w3.alloc (.cells #[.slice at2 T.length dt2, .slice af2 F.length df2, .slice ai2 V.length di2] 25)).heap.size (w3.alloc (.cells #[.slice at2 T.length dt2, .slice af2 F.length df2, .slice ai2 V.length di2] 25)) w5 := hb4.out.trans (b5.mono hb4.out.size)
  have bw : Below w3.heap.size w3 w5 := BX3.out.trans (bx5.mono BX3.out.size)
  have B5 := Lib.hid (B3.out.trans (bw.mono B3.out.size))
  have H3 := Lib.hid ((bw.block _ T3.out).trans H3.out)
  have T3 := Lib.hid (Nat.lt_of_lt_of_le T3.out bw.size)
  have H5 := Lib.hid ((bx5.block _ S3.out).trans H5.out)
  have T5 := Lib.hid (Nat.lt_of_lt_of_le S3.out bx5.size)
  have L5 := Lib.hid (And.intro (And.intro (L3.out.1.1.below bw) (And.intro (L3.out.1.2.1.below bw) (L3.out.1.2.2.below bw))) (And.intro (L3.out.2.1.below bw) (And.intro (L3.out.2.2.1.below bw) (L3.out.2.2.2.below bw))))
  have M5 := Lib.hid (And.intro qt1 qf1)
  have H7 := Lib.hid (heap_alloc_new w5 (.cells #[.int .i64 ver, .slice ct1 T'.length kt1, .slice cf1 F'.length kf1, .int .i64 tok, .int .i64 tag] 36))
  have BX5 := Lib.hid (below_alloc w5 (.cells #[.int .i64 ver, .slice ct1 T'.length kt1, .slice cf1 F'.length kf1, .int .i64 tok, .int .i64 tag] 36))
  have S5 : Hid (w5.heap.size < (w5.alloc (.cells #[.int .i64 ver, .slice ct1 T'.length kt1, .slice cf1 F'.length kf1, .int .i64 tok, .int .i64 tag] 36)).heap.size) := Lib.hid (by simp)
  have R5 := Lib.hid (HR.out.below (B5.out.trans (BX5.out.mono B5.out.size)))
  clear hown4 hb4 F4 L3 R3 BX3 S3 B3 b5 qt1 qf1 bx5 bw
  go_wp2_with fail
  obtain ⟨X5, hX5⟩ : ∃ X, w5.alloc (.cells #[.int .i64 ver, .slice ct1 T'.length kt1, .slice cf1 F'.length kf1, .int .i64 tok, .int .i64 tag] 36) = X := ⟨_, rfl⟩
  rw [hX5] at H7 BX5 S5 R5 ⊢
  clear hX5
  refine (C4.out X5 R5.out).mono ?_
  rintro e6 w6 ⟨wt2, wf2, rfl, ⟨qt2, qf2⟩, b6⟩
  obtain ⟨ct2, kt2, rfl⟩ := qt2.shape
  obtain ⟨cf2, kf2, rfl⟩ := qf2.shape
  have bw : Below w5.heap.size w5 w6 := BX5.out.trans (b6.mono BX5.out.size)
  have bz : Below w5.heap.size w5 (w6.alloc (.cells #[.int .i64 ver, .slice ct2 T'.length kt2, .slice cf2 F'.length kf2, .int .i64 tok, .int .i64 tag] 27)) := bw.alloc bw.size _
  have B6 := Lib.hid (B5.out.trans (bz.mono B5.out.size))
  have H9 := Lib.hid (heap_alloc_new w6 (.cells #[.int .i64 ver, .slice ct2 T'.length kt2, .slice cf2 F'.length kf2, .int .i64 tok, .int .i64 tag] 27))
  have H3 := Lib.hid ((bz.block _ T3.out).trans H3.out)
  have H5 := Lib.hid ((bz.block _ T5.out).trans H5.out)
  have H7 := Lib.hid (((b6.alloc b6.size (.cells #[.int .i64 ver, .slice ct2 T'.length kt2, .slice cf2 F'.length kf2, .int .i64 tok, .int .i64 tag] 27)).block _ S5.out).trans H7.out)
  have L6 := Lib.hid (And.intro (And.intro (L5.out.1.1.below bz) (And.intro (L5.out.1.2.1.below bz) (L5.out.1.2.2.below bz))) (And.intro (L5.out.2.1.below bz) (And.intro (L5.out.2.2.1.below bz) (L5.out.2.2.2.below bz))))
  have M6 := Lib.hid (And.intro (And.intro (M5.out.1.below bz) (M5.out.2.below bz)) (And.intro (qt2.alloc (.cells #[.int .i64 ver, .slice ct2 T'.length kt2, .slice cf2 F'.length kf2, .int .i64 tok, .int .i64 tag] 27)) (qf2.alloc (.cells #[.int .i64 ver, .slice ct2 T'.length kt2, .slice cf2 F'.length kf2, .int .i64 tok, .int .i64 tag] 27))))
  clear bw bz b6 qt2 qf2 M5 L5 B5 BX5 S5 R5 T3 T5
  obtain ⟨x0, x1, x2, _⟩ := cellsL3 H3.out
  obtain ⟨y0, y1, y2, _⟩ := cellsL3 H5.out
  have ha := fun i => cell_of_row _ w5.heap.size i _ _ (0, 0) H7.out
  have a0 := (ha 0).trans rfl
  have a1 := (ha 1).trans rfl
  have a2 := (ha 2).trans rfl
  have a3 := (ha 3).trans rfl
  have a4 := (ha 4).trans rfl
  have hc := fun i => cell_of_row _ w6.heap.size i _ _ (0, 0) H9.out
  have c0 := (hc 0).trans rfl
  have c1 := (hc 1).trans rfl
  have c2 := (hc 2).trans rfl
  have c3 := (hc 3).trans rfl
  have c4 := (hc 4).trans rfl
  clear ha hc
  have hl1 := Lib.hid (listed_any L6.out.1.1 L6.out.1.2.1 L6.out.1.2.2 L6.out.2.1 L6.out.2.2.1 L6.out.2.2.2 hV)
  rcases h1 with ⟨rfl, rfl⟩ | ⟨rfl, rfl⟩ <;> rcases h2 with ⟨rfl, rfl⟩ | ⟨rfl, rfl⟩
  all_goals go_wp2_with fail
  all_goals refine hl1.out.mono ?_
  all_goals rintro e7 w7 ⟨rfl, b7⟩
  all_goals have B7 := Lib.hid (B6.out.trans (b7.mono B6.out.size))
  all_goals replace a0 := kept b7 a0
  all_goals replace a1 := kept b7 a1
  all_goals replace a2 := kept b7 a2
  all_goals replace a3 := kept b7 a3
  all_goals replace a4 := kept b7 a4
  all_goals replace c0 := kept b7 c0
  all_goals replace c1 := kept b7 c1
  all_goals replace c2 := kept b7 c2
  all_goals replace c3 := kept b7 c3
  all_goals replace c4 := kept b7 c4
  all_goals have hl2 := Lib.hid (retried_any ver tok tag (M6.out.1.1.below b7) (M6.out.1.2.below b7) (M6.out.2.1.below b7) (M6.out.2.2.below b7))
  all_goals clear b7 M6 L6 hl1 x0 x1 x2 y0 y1 y2 B6
  all_goals go_wp2_with fail
  all_goals refine hl2.out.mono ?_
  all_goals rintro e8 w8 ⟨rfl, b8⟩
  all_goals have B8 := Lib.hid (B7.out.trans (b8.mono B7.out.size))
  all_goals clear b8 hl2 B7 a0 a1 a2 a3 a4 c0 c1 c2 c3 c4
  all_goals go_wp2_with fail
  all_goals refine (qawake_any _).mono ?_
  all_goals rintro e9 w9 ⟨rfl, b9⟩
  all_goals go_wp2_with fail
  all_goals go_ret
  all_goals exact ⟨rfl, B8.out.trans (b9.mono B8.out.size)⟩
theorem cut_one (zs : List Int) (t : Nat) : ∃ x, cutZ zs t 1 = [x] := List.length_eq_one_iff.1 (cutZ_len zs t 1)
theorem lr_p {b : Bool} {to fr vs : List Int} {w w' : World} {r : Ending} (h : PLRet b to fr vs w r w') : LR (if b then to else []) (if b then fr else []) (if b then vs else []) (.int .i64 (if b then 0 else 3)) w r w' := h
theorem lr_d {b b' : Bool} {to fr vs to' fr' vs' : List Int} (hb : b = b') (he : b = true → to = to' ∧ fr = fr' ∧ vs = vs') {w w' : World} {r : Ending} (h : DLRet b to fr vs w r w') :
    LR (if b' then to' else []) (if b' then fr' else []) (if b' then vs' else []) (.bool b') w r w' := by
  subst hb
  cases b with
  | false => exact h
  | true =>
    obtain ⟨rfl, rfl, rfl⟩ := he rfl
    exact h
theorem rr_p {b : Bool} {ver tok tag : Int} {to fr : List Int} {w w' : World} {r : Ending} (h : RRet b ver to fr tok tag w r w') : RR (if b then ver else 0) (if b then to else []) (if b then fr else []) (if b then tok else 0) (if b then tag else 0) (.int .i64 (if b then 0 else 3)) w r w' := by
  cases b <;> exact h
theorem rr_d {b b' : Bool} {ver tok tag ver' tok' tag' : Int} {to fr to' fr' : List Int} (hb : b = b') (he : b = true → ver = ver' ∧ to = to' ∧ fr = fr' ∧ tok = tok' ∧ tag = tag') {w w' : World} {r : Ending} (h : DRet b ver to fr tok tag w r w') :
    RR (if b' then ver' else 0) (if b' then to' else []) (if b' then fr' else []) (if b' then tok' else 0) (if b' then tag' else 0) (.bool b') w r w' := by
  subst hb
  cases b with
  | false => exact h
  | true =>
    obtain ⟨rfl, rfl, rfl, rfl, rfl⟩ := he rfl
    exact h
theorem two_ways (b : Bool) : (if b then (0 : Int) else 3) = 0 ∧ b = true ∨ (if b then (0 : Int) else 3) = 3 ∧ b = false := by cases b <;> simp
set_option maxRecDepth 20000 in
theorem reads_long {w : World} {ao : Option Addr} {n cap : Nat} (h : 300 < n) : Calls Try.prog 4 #[.slice ao n cap] w fun e w' => e = .returned (.bool true) ∧ Below w.heap.size w w' := by
  have h' : (300 : Int) < (n : Int) := by omega
  go_enter Try.func4, Try.ntmps4
  go_wp2_with fail
  go_ret
  exact ⟨rfl, Below.refl _ _⟩
theorem reads_walk {w : World} {ao : Option Addr} {n cap : Nat} {zs : List Int} (hr : Rd w (.slice ao n cap) zs) (hp : Plain (.slice ao n cap)) :
    Calls Try.prog 4 #[.slice ao n cap] w fun e w' => e = .returned (.bool true) ∧ Below w.heap.size w w' := by
  by_cases hn : 300 < n
  · exact reads_long hn
  obtain ⟨a', c', hv⟩ := hr.shape
  cases hv
  have hb := hr.byt
  have hl : zs.length ≤ 40000 := by omega
  obtain ⟨x, hx⟩ := cut_one zs 0
  obtain ⟨y, hy⟩ := cut_one zs 5
  obtain ⟨z, hz⟩ := cut_one zs (6 + y.toNat)
  obtain ⟨e, he⟩ : ∃ e, 7 + y.toNat + z.toNat = e := ⟨_, rfl⟩
  obtain ⟨s, hs⟩ : ∃ s, startP zs 128 = s := ⟨_, rfl⟩
  obtain ⟨s', hs'⟩ : ∃ s', startP zs 240 = s' := ⟨_, rfl⟩
  obtain ⟨lb, lf⟩ := list_eq hb hx hy hz he s hs
  obtain ⟨rb, rf⟩ := retry_eq hb hx hy hz he s' hs'
  have hV : (versAt zs e (cuts zs e)).length ≤ 1000 := by
    rw [versAt_len]
    unfold cuts
    omega
  refine reads_some hr (by omega) ?_ (two_ways _) (two_ways _)
    (fun v2 w2 h2 p2 => (preadlist_any h2 p2 hl x y z hx hy hz e he).mono fun r w' h => lr_p h)
    (fun w2 h2 => (dreadlist_any h2 hp hl s hs).mono fun r w' h => lr_d lb lf h)
    (fun v2 w2 h2 p2 => (preadretry_any h2 p2 hl x y z hx hy hz e he).mono fun r w' h => rr_p h)
    (fun w2 h2 => (dreadretry_any h2 hp hl s' hs').mono fun r w' h => rr_d rb rf h)
  split
  · exact hV
  · simp
end Go.Proofs.Ytjdlmmbkppaenaa
