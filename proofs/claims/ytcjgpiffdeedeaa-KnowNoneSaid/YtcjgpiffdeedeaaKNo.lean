/- KnowNone's walk: the call tells true, and writes nothing that was there. -/
import Derived.Test.YtcjgpiffdeedeaaKTm
namespace Go.Proofs.Ytcjgpiffdeedeaa
open Go Go.RowKit

theorem der_no {Bs : Int → Prop} {b : Bool} {x : Int} : ¬ Der [] Bs b x := fun h => der_nil h
theorem tp_nil (w : World) (F : Nat → Prop) : Tp w F (.pointer none) [] := .inl ⟨rfl, rfl⟩
/-- A mind of no table makes nothing. -/
theorem canm_no {c : Fx} {w : World} {F : Nat → Prop} {r : Nat → Int → Option Value} {S : MS} (h : Mnd c w F r S) (hT : Tp w F c.tp []) {Bs : Int → Prop} {pops : Int → Nat} (m : Mi [] Bs S pops) {x : Int} (hw : (Lit.int .i64 x).wf = true) :
    Calls Try.prog 21 #[.pointer (some ⟨c.M, 0, none⟩), .int .i64 x] w fun e w' => e = .returned (.bool false) ∧ Below w.heap.size w w' :=
  (canm_any h hT Wf.nil hw).mono fun e w' ⟨l, hl, he, hb⟩ => by
    refine ⟨?_, hb⟩
    rw [he]
    cases hc : (ownF [] S l x || canP S x) with
    | false => rfl
    | true => exact (der_no ((m.can Wf.nil hl).1 hc)).elim
theorem knows_no {c : Fx} {w : World} {F : Nat → Prop} {r : Nat → Int → Option Value} {S : MS} (h : Mnd c w F r S) {Bs : Int → Prop} {pops : Int → Nat} (m : Mi [] Bs S pops) :
    Calls Try.prog 20 #[.pointer (some ⟨c.M, 0, none⟩)] w fun e w' => (∃ (a : Option Addr) (cap : Nat), e = .returned (.slice a 0 cap)) ∧ Below w.heap.size w w' :=
  (knows_any h m.inr (by simp)).mono fun e w' ⟨v, l, he, _, hx, hr, _, hb⟩ => by
    have hl : l = [] := List.eq_nil_iff_forall_not_mem.2 fun x hm => der_no ((m.knows Wf.nil x).1 ((hx x).1 hm))
    subst hl
    obtain ⟨a, cap, rfl, _⟩ := hr
    exact ⟨⟨a, cap, he⟩, hb⟩
theorem closed_no {w : World} {lv : Value} {ls : List Int} (hl : Rd .i64 w lv ls) (hwf : ∀ y ∈ ls, (Lit.int .i64 y).wf = true) :
    Calls Try.prog 15 #[.pointer none, lv] w fun e w' => (∃ (a : Option Addr) (cap : Nat), e = .returned (.slice a 0 cap)) ∧ Below w.heap.size w w' :=
  (closed_any (tp_nil w _) Wf.nil hl hwf).mono fun e w' ⟨v, l, he, _, hx, hr, _, hb⟩ => by
    have hl : l = [] := List.eq_nil_iff_forall_not_mem.2 fun x hm => der_no ((hx x).1 hm)
    subst hl
    obtain ⟨a, cap, rfl, _⟩ := hr
    exact ⟨⟨a, cap, he⟩, hb⟩
theorem kcan_no {w : World} {lv : Value} {ls : List Int} (hl : Rd .i64 w lv ls) (hwf : ∀ y ∈ ls, (Lit.int .i64 y).wf = true) {h : Int} (hh : (Lit.int .i64 h).wf = true) :
    Calls Try.prog 16 #[.pointer none, lv, .int .i64 h] w fun e w' => e = .returned (.bool false) ∧ Below w.heap.size w w' :=
  (kcan_any (tp_nil w _) Wf.nil hl hwf hh).mono fun e w' ⟨b, he, hb, hB⟩ => by
    cases b with
    | false => exact ⟨he, hB⟩
    | true => exact (der_no (hb.1 rfl)).elim
set_option maxHeartbeats 4000000 in
set_option maxRecDepth 20000 in
/-- The law. -/
theorem knone_walk {w : World} {v : Value} {xs : List Int} (hr : Rd .i64 w v xs) (hwf : ∀ y ∈ xs, (Lit.int .i64 y).wf = true) {h : Int} (hh : (Lit.int .i64 h).wf = true) :
    Calls Try.prog 8 #[v, .int .i64 h] w fun e w' => e = .returned (.bool true) ∧ Below w.heap.size w w' := by
  have hr' := hr
  obtain ⟨ao, cap, rfl, _⟩ := hr'
  by_cases hl : (20 : Int) < (xs.length : Int)
  · clear hr
    go_enter Try.func8, Try.ntmps8
    go_wp2_with fail
    go_ret
    exact ⟨rfl, Below.refl _ _⟩
  · have hl' : xs.length ≤ 1000000 := by omega
    have HR := Lib.hid hr
    have HW := Lib.hid hwf
    clear hr hwf
    go_enter Try.func8, Try.ntmps8
    go_wp2_with fail
    refine (kterms_any HR.out hl').mono ?_
    rintro e w1 ⟨u1, rfl, o1, b1⟩
    obtain ⟨a1, c1, rfl, _⟩ := own_shape o1
    clear o1
    go_wp2_with fail
    refine learn_nil.mono ?_
    rintro e w2 ⟨rfl, b2⟩
    have B2 := b1.trans (b2.mono b1.size)
    clear b1 b2
    go_wp2_with fail
    refine (mnew_any (tp_nil w2 (fun _ => False))).mono ?_
    rintro e w3 ⟨rfl, m3, b3⟩
    have B3 := B2.trans (b3.mono B2.size)
    have hF3 : ∀ k, w2.heap.size ≤ k ∧ k < w2.heap.size + 4 → w.heap.size ≤ k := fun k hk => Nat.le_trans B2.size hk.1
    have M3 := Lib.hid m3
    have H3 := Lib.hid hF3
    have BB3 := Lib.hid B3
    clear m3 b3 B2 hF3 B3
    go_wp2_with fail
    refine (kterms_any (HR.out.below BB3.out) hl').mono ?_
    rintro e w4 ⟨u4, rfl, o4, b4⟩
    have B4 := BB3.out.trans (b4.mono BB3.out.size)
    have hlearn := learn_any (M3.out.below b4) (tp_nil w4 _) Wf.nil (Mi.zero (N := [])) (Cs := fun y => y ∈ xs) (fun _ h => h.elim) (lv := u4) (ls := xs)
      ⟨(Rd.of_own o4).1, fun _ a n cap e hF => by
        have h1 := M3.out.lt _ hF
        have h2 := (o4.lt a.block (by rw [e]; rfl)).1
        omega⟩ HW.out (fun _ h => h) (fun _ h => .inr h)
    obtain ⟨a4, c4, rfl, _⟩ := own_shape o4
    have BB4 := Lib.hid B4
    clear o4 b4 B4
    go_wp2_with fail
    refine hlearn.mono ?_
    rintro e w5 ⟨rfl, F5, r5, S5, p5, X, NB, q1, q2, q3, q4⟩
    have B5 := BB4.out.trans (q4.toBelow BB4.out.size H3.out)
    have Q1 := Lib.hid q1
    have Q2 := Lib.hid q2
    have Q3 := Lib.hid q3
    have BB5 := Lib.hid B5
    clear q1 q2 q3 q4 B5 hlearn
    go_wp2_with fail
    refine canm_nil.mono ?_
    rintro e w6 ⟨rfl, b6⟩
    have R6 := Lib.hid b6
    clear b6
    go_wp2_with fail
    refine knows_nil.mono ?_
    rintro e w7 ⟨rfl, rfl⟩
    go_wp2_with fail
    refine (canm_no (Q1.out.below R6.out) (tp_nil _ _) Q3.out hh).mono ?_
    rintro e w8 ⟨rfl, b8⟩
    have R8 := Lib.hid (R6.out.trans (b8.mono R6.out.size))
    clear b8
    go_wp2_with fail
    refine (knows_no (Q1.out.below R8.out) Q3.out).mono ?_
    rintro e w9 ⟨⟨a9, c9, rfl⟩, b9⟩
    have R9 := Lib.hid (BB5.out.trans ((R8.out.trans (b9.mono R8.out.size)).mono BB5.out.size))
    clear b9
    go_wp2_with fail
    refine (kterms_any (HR.out.below R9.out) hl').mono ?_
    rintro e w10 ⟨u10, rfl, o10, b10⟩
    have c10 := closed_no (Rd.of_own o10).1 HW.out
    obtain ⟨a10, c10', rfl, _⟩ := own_shape o10
    have R10 := Lib.hid (R9.out.trans (b10.mono R9.out.size))
    clear o10 b10
    go_wp2_with fail
    refine c10.mono ?_
    rintro e w11 ⟨⟨a11, c11, rfl⟩, b11⟩
    have R11 := Lib.hid (R10.out.trans (b11.mono R10.out.size))
    clear b11 c10
    go_wp2_with fail
    refine (kterms_any (HR.out.below R11.out) hl').mono ?_
    rintro e w12 ⟨u12, rfl, o12, b12⟩
    have c12 := kcan_no (Rd.of_own o12).1 HW.out hh
    obtain ⟨a12, c12', rfl, _⟩ := own_shape o12
    have R12 := Lib.hid (R11.out.trans (b12.mono R11.out.size))
    clear o12 b12
    go_wp2_with fail
    refine c12.mono ?_
    rintro e w13 ⟨rfl, b13⟩
    have R13 := Lib.hid (R12.out.trans (b13.mono R12.out.size))
    clear b13 c12
    go_wp2_with fail
    refine (kawake_any w13).mono ?_
    rintro e w14 ⟨rfl, b14⟩
    go_wp2_with fail
    go_ret
    exact ⟨rfl, R13.out.trans (b14.mono R13.out.size)⟩
#print axioms knone_walk
end Go.Proofs.Ytcjgpiffdeedeaa
