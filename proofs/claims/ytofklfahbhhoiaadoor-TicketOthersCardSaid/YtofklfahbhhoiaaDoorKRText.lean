/- The document's text of a token: tokB, in new memory; none, if it may not be. -/
import Derived.Test.YtofklfahbhhoiaaDoorKWrite
import Derived.Test.YtofklfahbhhoiaaDoorRefTake
namespace Go.Proofs.YtofklfahbhhoiaaDoor
open Go Go.RowKit

/-- May a token be? -/
def tokOk (a t : Int) (n : Nat) : Bool := !(sz a == 0) && !(sz t == 0) && !(decide (20 < n))
def textB (l : Bool) (a t : Int) (nm : List Int) : List Int := if tokOk a t nm.length then tokB l a t nm else []
theorem textB_ok {l : Bool} {a t : Int} {nm : List Int} (h : tokOk a t nm.length = true) : textB l a t nm = tokB l a t nm := if_pos h
theorem textB_no {l : Bool} {a t : Int} {nm : List Int} (h : tokOk a t nm.length = false) : textB l a t nm = [] := by unfold textB; rw [h]; rfl
theorem own_none (w : World) (base : Nat) : w.ownsRow base 5 1 (.slice none 0 0) 0 (by8 []) := ⟨rfl, .inl ⟨rfl, rfl⟩⟩
/-- A row of the call's own. -/
def OwnB (w w' : World) (e : Ending) (zs : List Int) : Prop := ∃ v', e = .returned v' ∧ w'.ownsRow w.heap.size 5 1 v' zs.length (by8 zs) ∧ Below w.heap.size w w'
theorem OwnB.none {w w' : World} (h : Below w.heap.size w w') : OwnB w w' (.returned (.slice none 0 0)) [] := ⟨_, rfl, own_none _ _, h⟩
set_option maxRecDepth 20000 in
set_option maxHeartbeats 2000000 in
theorem rtext_no {w : World} {ao : Option Addr} {cap : Nat} {nm : List Int} {a t : Int} (hn : Rd w (.slice ao nm.length cap) nm) (hl : nm.length ≤ 50) :
    Calls Tryd.prog 15 #[.agg #[.bool false, .int .i64 a, .int .i64 t, .slice ao nm.length cap]] w fun e w' => OwnB w w' e (textB false a t nm) := by
  obtain ⟨W, hW⟩ : ∃ W, w.alloc (.cells #[.bool false, .int .i64 a, .int .i64 t, .slice ao nm.length cap] 24) = W := ⟨_, rfl⟩
  have hbW : Below w.heap.size w W := by rw [← hW]; exact below_alloc w _
  have hM : W.heap[w.heap.size]? = some (.cells #[.bool false, .int .i64 a, .int .i64 t, .slice ao nm.length cap] 24 (0, 0)) := by rw [← hW]; exact heap_alloc_new w _
  have hWs : W.heap.size = w.heap.size + 1 := by rw [← hW]; simp
  have HW := Lib.hid (And.intro hbW (And.intro hM hWs))
  obtain ⟨m0, m1, m2, m3, mf⟩ := cells4 hM
  have z1 := refsize_any a W
  have z2 := refsize_any t W
  have HO : Hid (tokOk a t nm.length = (!(sz a == 0) && !(sz t == 0) && !(decide (20 < nm.length)))) := Lib.hid rfl
  generalize sz a = sa at *
  generalize sz t = st at *
  have HN := Lib.hid (And.intro hn hl)
  clear hbW hM hWs hn hl
  by_cases q1 : sa = 0
  · have HB : Hid (textB false a t nm = []) := Lib.hid (textB_no (by rw [HO.out]; simp [q1]))
    have q1' : (sa == 0) = true := by simp [q1]
    clear q1 HO
    go_enter Tryd.func15, Tryd.ntmps15
    go_wp2_with fail
    refine z1.mono ?_
    rintro e w1 ⟨rfl, rfl⟩
    clear z1
    go_wp2_with fail
    go_ret
    rw [HB.out]
    exact OwnB.none HW.out.1
  · have q1' : (sa == 0) = false := by simp [q1]
    by_cases q2 : st = 0
    · have HB : Hid (textB false a t nm = []) := Lib.hid (textB_no (by rw [HO.out]; simp [q2]))
      have q2' : (st == 0) = true := by simp [q2]
      clear q1 q2 HO
      go_enter Tryd.func15, Tryd.ntmps15
      go_wp2_with fail
      refine z1.mono ?_
      rintro e w1 ⟨rfl, rfl⟩
      clear z1
      go_wp2_with fail
      refine z2.mono ?_
      rintro e w1 ⟨rfl, rfl⟩
      clear z2
      go_wp2_with fail
      go_ret
      rw [HB.out]
      exact OwnB.none HW.out.1
    · have q2' : (st == 0) = false := by simp [q2]
      by_cases q3 : 20 < nm.length
      · have HB : Hid (textB false a t nm = []) := Lib.hid (textB_no (by rw [HO.out]; simp [q3]))
        have q3' : 20 < (nm.length : Int) := by omega
        clear q1 q2 HO
        go_enter Tryd.func15, Tryd.ntmps15
        go_wp2_with fail
        refine z1.mono ?_
        rintro e w1 ⟨rfl, rfl⟩
        clear z1
        go_wp2_with fail
        refine z2.mono ?_
        rintro e w1 ⟨rfl, rfl⟩
        clear z2
        go_wp2_with fail
        go_ret
        rw [HB.out]
        exact OwnB.none HW.out.1
      · have HB : Hid (textB false a t nm = [0] ++ enc a ++ enc t ++ (enc nm.length ++ nm)) := Lib.hid ((textB_ok (by rw [HO.out]; simp [q1, q2, q3])).trans (by simp [tokB]))
        have q3' : ¬ 20 < (nm.length : Int) := by omega
        have HA := Lib.hid (And.intro (enc_len a) (And.intro (enc_len t) (And.intro (enc_len (nm.length : Int)) (And.intro (enc_byt a) (enc_byt t)))))
        have o0 : (W.alloc (.cells #[.int .u8 0] 5)).ownsRow W.heap.size 5 1 (.slice (some ⟨W.heap.size, 0, none⟩) 1 1) 1 (by8 [0]) := own_lit W [0] (by simp)
        have bA := below_alloc W (.cells #[.int .u8 0] 5)
        have O0 := Lib.hid (And.intro o0 bA)
        have ma := fun v => (cells4 (((below_alloc W (.cells #[.int .u8 v] 5)).block _ (blkLt HW.out.2.1)).trans HW.out.2.1)).1
        have mb := fun v => (cells4 (((below_alloc W (.cells #[.int .u8 v] 5)).block _ (blkLt HW.out.2.1)).trans HW.out.2.1)).2.1
        clear q1 q2 HO o0 bA q3
        go_enter Tryd.func15, Tryd.ntmps15
        go_wp2_with fail
        refine z1.mono ?_
        rintro e w1 ⟨rfl, rfl⟩
        clear z1
        go_wp2_with fail
        refine z2.mono ?_
        rintro e w1 ⟨rfl, rfl⟩
        clear z2
        go_wp2_with fail
        refine (bytes_any a).mono ?_
        rintro e w2 ⟨v2, rfl, o2, b2⟩
        have x2 := own_below O0.out.1 b2
        have r2 := (Rd.of_own o2 HA.out.2.2.2.1).1
        have B2 := Lib.hid (O0.out.2.trans (b2.mono O0.out.2.size))
        clear O0 b2 o2 m0 m1 m2 m3 mf ma mb
        go_wp2_with (at_builtin; refine wpList_append_bytes (.tmp 25) (.tmp 28) 22 rfl rfl info5 Tryd.underlying22 W.heap.size _ _ _ rfl x2 _ (enc a) rfl r2 (by have := HA.out; omega) B2.out.size ?_; intro v3 w3 x3 b3; clear x2 r2; have B3 := Lib.hid (B2.out.trans b3); clear b3 B2; obtain ⟨m0, m1, m2, m3, mf⟩ := cells4 ((B3.out.block _ (blkLt HW.out.2.1)).trans HW.out.2.1))
        refine (bytes_any t).mono ?_
        rintro e w4 ⟨v4, rfl, o4, b4⟩
        have x4 := own_below x3 b4
        have r4 := (Rd.of_own o4 HA.out.2.2.2.2).1
        have B4 := Lib.hid (B3.out.trans (b4.mono B3.out.size))
        clear x3 b4 o4 m0 m1 m2 m3 mf B3
        go_wp2_with (at_builtin; refine wpList_append_bytes (.tmp 30) (.tmp 33) 22 rfl rfl info5 Tryd.underlying22 W.heap.size _ _ _ rfl x4 _ (enc t) rfl r4 (by have := HA.out; simp; omega) B4.out.size ?_; intro v5 w5 x5 b5; clear x4 r4; have B5 := Lib.hid (B4.out.trans b5); clear b5 B4; obtain ⟨m0, m1, m2, m3, mf⟩ := cells4 ((B5.out.block _ (blkLt HW.out.2.1)).trans HW.out.2.1))
        refine (refgive_any (HN.out.1.below (HW.out.1.trans (B5.out.mono HW.out.1.size))) (by have := HN.out.2; omega)).mono ?_
        rintro e w6 ⟨v6, rfl, o6, b6⟩
        have x6 := own_below x5 b6
        have r6 := (Rd.of_own (zs := enc nm.length ++ nm) o6 ((enc_byt _).app HN.out.1.byt)).1
        have B6 := Lib.hid (B5.out.trans (b6.mono B5.out.size))
        clear x5 b6 o6 m0 m1 m2 m3 mf B5
        go_wp2_with (at_builtin; refine wpList_append_bytes (.tmp 35) (.tmp 38) 22 rfl rfl info5 Tryd.underlying22 W.heap.size _ _ _ rfl x6 _ (enc nm.length ++ nm) rfl r6 (by have := HA.out; have := HN.out.2; simp; omega) B6.out.size ?_; intro v7 w7 x7 b7; clear x6 r6; have B7 := Lib.hid (B6.out.trans b7); clear b7 B6)
        go_ret
        rw [HB.out]
        refine ⟨_, rfl, ?_, HW.out.1.trans (B7.out.mono HW.out.1.size)⟩
        have e : ([0] ++ enc a ++ enc t ++ (enc nm.length ++ nm)).length = 1 + (enc a).length + (enc t).length + (enc nm.length ++ nm).length := by simp only [List.length_append, List.length_singleton]
        rw [e]
        exact own_mono x7 HW.out.1.size
set_option maxRecDepth 20000 in
set_option maxHeartbeats 2000000 in
theorem rtext_yes {w : World} {ao : Option Addr} {cap : Nat} {nm : List Int} {a t : Int} (hn : Rd w (.slice ao nm.length cap) nm) (hl : nm.length ≤ 50) :
    Calls Tryd.prog 15 #[.agg #[.bool true, .int .i64 a, .int .i64 t, .slice ao nm.length cap]] w fun e w' => OwnB w w' e (textB true a t nm) := by
  obtain ⟨W, hW⟩ : ∃ W, w.alloc (.cells #[.bool true, .int .i64 a, .int .i64 t, .slice ao nm.length cap] 24) = W := ⟨_, rfl⟩
  have hbW : Below w.heap.size w W := by rw [← hW]; exact below_alloc w _
  have hM : W.heap[w.heap.size]? = some (.cells #[.bool true, .int .i64 a, .int .i64 t, .slice ao nm.length cap] 24 (0, 0)) := by rw [← hW]; exact heap_alloc_new w _
  have hWs : W.heap.size = w.heap.size + 1 := by rw [← hW]; simp
  have HW := Lib.hid (And.intro hbW (And.intro hM hWs))
  obtain ⟨m0, m1, m2, m3, mf⟩ := cells4 hM
  have z1 := refsize_any a W
  have z2 := refsize_any t W
  have HO : Hid (tokOk a t nm.length = (!(sz a == 0) && !(sz t == 0) && !(decide (20 < nm.length)))) := Lib.hid rfl
  generalize sz a = sa at *
  generalize sz t = st at *
  have HN := Lib.hid (And.intro hn hl)
  clear hbW hM hWs hn hl
  by_cases q1 : sa = 0
  · have HB : Hid (textB true a t nm = []) := Lib.hid (textB_no (by rw [HO.out]; simp [q1]))
    have q1' : (sa == 0) = true := by simp [q1]
    clear q1 HO
    go_enter Tryd.func15, Tryd.ntmps15
    go_wp2_with fail
    refine z1.mono ?_
    rintro e w1 ⟨rfl, rfl⟩
    clear z1
    go_wp2_with fail
    go_ret
    rw [HB.out]
    exact OwnB.none HW.out.1
  · have q1' : (sa == 0) = false := by simp [q1]
    by_cases q2 : st = 0
    · have HB : Hid (textB true a t nm = []) := Lib.hid (textB_no (by rw [HO.out]; simp [q2]))
      have q2' : (st == 0) = true := by simp [q2]
      clear q1 q2 HO
      go_enter Tryd.func15, Tryd.ntmps15
      go_wp2_with fail
      refine z1.mono ?_
      rintro e w1 ⟨rfl, rfl⟩
      clear z1
      go_wp2_with fail
      refine z2.mono ?_
      rintro e w1 ⟨rfl, rfl⟩
      clear z2
      go_wp2_with fail
      go_ret
      rw [HB.out]
      exact OwnB.none HW.out.1
    · have q2' : (st == 0) = false := by simp [q2]
      by_cases q3 : 20 < nm.length
      · have HB : Hid (textB true a t nm = []) := Lib.hid (textB_no (by rw [HO.out]; simp [q3]))
        have q3' : 20 < (nm.length : Int) := by omega
        clear q1 q2 HO
        go_enter Tryd.func15, Tryd.ntmps15
        go_wp2_with fail
        refine z1.mono ?_
        rintro e w1 ⟨rfl, rfl⟩
        clear z1
        go_wp2_with fail
        refine z2.mono ?_
        rintro e w1 ⟨rfl, rfl⟩
        clear z2
        go_wp2_with fail
        go_ret
        rw [HB.out]
        exact OwnB.none HW.out.1
      · have HB : Hid (textB true a t nm = [1] ++ enc a ++ enc t ++ (enc nm.length ++ nm)) := Lib.hid ((textB_ok (by rw [HO.out]; simp [q1, q2, q3])).trans (by simp [tokB]))
        have q3' : ¬ 20 < (nm.length : Int) := by omega
        have HA := Lib.hid (And.intro (enc_len a) (And.intro (enc_len t) (And.intro (enc_len (nm.length : Int)) (And.intro (enc_byt a) (enc_byt t)))))
        have o0 : (W.alloc (.cells #[.int .u8 1] 5)).ownsRow W.heap.size 5 1 (.slice (some ⟨W.heap.size, 0, none⟩) 1 1) 1 (by8 [1]) := own_lit W [1] (by simp)
        have bA := below_alloc W (.cells #[.int .u8 1] 5)
        have O0 := Lib.hid (And.intro o0 bA)
        have ma := fun v => (cells4 (((below_alloc W (.cells #[.int .u8 v] 5)).block _ (blkLt HW.out.2.1)).trans HW.out.2.1)).1
        have mb := fun v => (cells4 (((below_alloc W (.cells #[.int .u8 v] 5)).block _ (blkLt HW.out.2.1)).trans HW.out.2.1)).2.1
        clear q1 q2 HO o0 bA q3
        go_enter Tryd.func15, Tryd.ntmps15
        go_wp2_with fail
        refine z1.mono ?_
        rintro e w1 ⟨rfl, rfl⟩
        clear z1
        go_wp2_with fail
        refine z2.mono ?_
        rintro e w1 ⟨rfl, rfl⟩
        clear z2
        go_wp2_with fail
        refine (bytes_any a).mono ?_
        rintro e w2 ⟨v2, rfl, o2, b2⟩
        have x2 := own_below O0.out.1 b2
        have r2 := (Rd.of_own o2 HA.out.2.2.2.1).1
        have B2 := Lib.hid (O0.out.2.trans (b2.mono O0.out.2.size))
        clear O0 b2 o2 m0 m1 m2 m3 mf ma mb
        go_wp2_with (at_builtin; refine wpList_append_bytes (.tmp 25) (.tmp 28) 22 rfl rfl info5 Tryd.underlying22 W.heap.size _ _ _ rfl x2 _ (enc a) rfl r2 (by have := HA.out; omega) B2.out.size ?_; intro v3 w3 x3 b3; clear x2 r2; have B3 := Lib.hid (B2.out.trans b3); clear b3 B2; obtain ⟨m0, m1, m2, m3, mf⟩ := cells4 ((B3.out.block _ (blkLt HW.out.2.1)).trans HW.out.2.1))
        refine (bytes_any t).mono ?_
        rintro e w4 ⟨v4, rfl, o4, b4⟩
        have x4 := own_below x3 b4
        have r4 := (Rd.of_own o4 HA.out.2.2.2.2).1
        have B4 := Lib.hid (B3.out.trans (b4.mono B3.out.size))
        clear x3 b4 o4 m0 m1 m2 m3 mf B3
        go_wp2_with (at_builtin; refine wpList_append_bytes (.tmp 30) (.tmp 33) 22 rfl rfl info5 Tryd.underlying22 W.heap.size _ _ _ rfl x4 _ (enc t) rfl r4 (by have := HA.out; simp; omega) B4.out.size ?_; intro v5 w5 x5 b5; clear x4 r4; have B5 := Lib.hid (B4.out.trans b5); clear b5 B4; obtain ⟨m0, m1, m2, m3, mf⟩ := cells4 ((B5.out.block _ (blkLt HW.out.2.1)).trans HW.out.2.1))
        refine (refgive_any (HN.out.1.below (HW.out.1.trans (B5.out.mono HW.out.1.size))) (by have := HN.out.2; omega)).mono ?_
        rintro e w6 ⟨v6, rfl, o6, b6⟩
        have x6 := own_below x5 b6
        have r6 := (Rd.of_own (zs := enc nm.length ++ nm) o6 ((enc_byt _).app HN.out.1.byt)).1
        have B6 := Lib.hid (B5.out.trans (b6.mono B5.out.size))
        clear x5 b6 o6 m0 m1 m2 m3 mf B5
        go_wp2_with (at_builtin; refine wpList_append_bytes (.tmp 35) (.tmp 38) 22 rfl rfl info5 Tryd.underlying22 W.heap.size _ _ _ rfl x6 _ (enc nm.length ++ nm) rfl r6 (by have := HA.out; have := HN.out.2; simp; omega) B6.out.size ?_; intro v7 w7 x7 b7; clear x6 r6; have B7 := Lib.hid (B6.out.trans b7); clear b7 B6)
        go_ret
        rw [HB.out]
        refine ⟨_, rfl, ?_, HW.out.1.trans (B7.out.mono HW.out.1.size)⟩
        have e : ([1] ++ enc a ++ enc t ++ (enc nm.length ++ nm)).length = 1 + (enc a).length + (enc t).length + (enc nm.length ++ nm).length := by simp only [List.length_append, List.length_singleton]
        rw [e]
        exact own_mono x7 HW.out.1.size
theorem rtext_any {w : World} {ao : Option Addr} {cap : Nat} {nm : List Int} {l : Bool} {a t : Int} (hn : Rd w (.slice ao nm.length cap) nm) (hl : nm.length ≤ 50) :
    Calls Tryd.prog 15 #[.agg #[.bool l, .int .i64 a, .int .i64 t, .slice ao nm.length cap]] w fun e w' => OwnB w w' e (textB l a t nm) := by
  cases l
  · exact rtext_no hn hl
  · exact rtext_yes hn hl
#print axioms rtext_any
end Go.Proofs.YtofklfahbhhoiaaDoor
