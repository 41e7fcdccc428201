/- law 16's told: are two tokens the same; the table's kit beside the bytes' kit. -/
import Derived.Test.YtofklfahbhhoiaaDoorKRText
import Derived.Test.YtofklfahbhhoiaaDoorTWGd
namespace Go.Proofs.YtofklfahbhhoiaaDoor
open Go Go.RowKit

theorem Rd.toT {w : World} {v : Value} {zs : List Int} (h : Rd w v zs) : T.Rd .u8 w v zs := by
  obtain ⟨ao, cap, h1, h2, h3, h4, _, h6⟩ := h
  exact ⟨ao, cap, h1, h2, h3, h4, h6⟩
theorem bstr_inj {zs ys : List Int} (h1 : Byt zs) (h2 : Byt ys) (h : T.bstr zs = T.bstr ys) : zs = ys := by
  have key : ∀ (l : List Int) (r : ByteArray), (l.foldl (fun r n => r.push (UInt8.ofNat n.toNat)) r).data.toList = r.data.toList ++ l.map fun n => UInt8.ofNat n.toNat := by
    intro l
    induction l with
    | nil => intro r; simp
    | cons b l ih =>
      intro r
      simp only [List.foldl_cons, List.map_cons]
      rw [ih]
      simp [ByteArray.push]
  have e : zs.map (fun n => UInt8.ofNat n.toNat) = ys.map (fun n => UInt8.ofNat n.toNat) := by
    have a := key zs ByteArray.empty
    have b := key ys ByteArray.empty
    have h' : (zs.foldl (fun r n => r.push (UInt8.ofNat n.toNat)) ByteArray.empty) = (ys.foldl (fun r n => r.push (UInt8.ofNat n.toNat)) ByteArray.empty) := h
    rw [h'] at a
    rw [a] at b
    exact List.append_cancel_left b
  clear h key
  induction zs generalizing ys with
  | nil => cases ys with
    | nil => rfl
    | cons y ys => simp at e
  | cons z zs ih =>
    cases ys with
    | nil => simp at e
    | cons y ys =>
      simp only [List.map_cons, List.cons.injEq] at e
      have hz := h1 z (by simp)
      have hy := h2 y (by simp)
      have e1 := congrArg UInt8.toNat e.1
      simp only [UInt8.toNat_ofNat'] at e1
      rw [ih (fun x hx => h1 x (by simp [hx])) (fun x hx => h2 x (by simp [hx])) e.2, show z = y by omega]
theorem TRd.same {w w' : World} {g n cap off : Nat} {zs : List Int} (h : T.Rd .u8 w (.slice (some ⟨g, off, none⟩) n cap) zs) (hb : w'.heap[g]? = w.heap[g]?) : T.Rd .u8 w' (.slice (some ⟨g, off, none⟩) n cap) zs := by
  obtain ⟨a2, c2, h1, h2, h3, h4, h6⟩ := h
  simp only [Value.slice.injEq] at h1
  obtain ⟨rfl, rfl, rfl⟩ := h1
  refine ⟨some ⟨g, off, none⟩, cap, rfl, h2, h3, h4, fun a ha j hj => ?_⟩
  cases ha
  rw [← h6 _ rfl j hj]
  unfold World.cell?
  rw [Addr.add_lit]
  simp only
  rw [hb]
/-- Do two tokens say the same? -/
def toldB (l : Bool) (a t : Int) (nm : List Int) (l' : Bool) (a' t' : Int) (nm' : List Int) : Bool := decide (l = l') && (decide (a = a') && (decide (t = t') && decide (nm = nm')))
theorem toldB_iff {l l' : Bool} {a a' t t' : Int} {nm nm' : List Int} : toldB l a t nm l' a' t' nm' = true ↔ l = l' ∧ a = a' ∧ t = t' ∧ nm = nm' := by simp [toldB]
theorem retB {a b : Bool} (h : a = b) : Ending.returned (.bool a) = .returned (.bool b) := by rw [h]
set_option maxRecDepth 20000 in
set_option maxHeartbeats 2000000 in
theorem told_any {w : World} {v v' : Value} {nm nm' : List Int} {l l' : Bool} {a t a' t' : Int} (hx : Rd w v nm) (hy : Rd w v' nm') :
    Calls Tryd.prog 22 #[.agg #[.bool l, .int .i64 a, .int .i64 t, v], .agg #[.bool l', .int .i64 a', .int .i64 t', v']] w fun e w' => e = .returned (.bool (toldB l a t nm l' a' t' nm')) ∧ Below w.heap.size w w' := by
  obtain ⟨W, hW⟩ : ∃ W, (w.alloc (.cells #[.bool l, .int .i64 a, .int .i64 t, v] 32)).alloc (.cells #[.bool l', .int .i64 a', .int .i64 t', v'] 24) = W := ⟨_, rfl⟩
  have hbW : Below w.heap.size w W := by rw [← hW]; exact ((Below.refl _ _).alloc (Nat.le_refl _) _).alloc (by simp) _
  have hM : W.heap[w.heap.size]? = some (.cells #[.bool l, .int .i64 a, .int .i64 t, v] 32 (0, 0)) := by rw [← hW, (below_alloc _ _).block _ (by simp)]; exact heap_alloc_new w _
  have hM2 : W.heap[w.heap.size + 1]? = some (.cells #[.bool l', .int .i64 a', .int .i64 t', v'] 24 (0, 0)) := by
    rw [← hW]
    have := heap_alloc_new (w.alloc (.cells #[.bool l, .int .i64 a, .int .i64 t, v] 32)) (.cells #[.bool l', .int .i64 a', .int .i64 t', v'] 24)
    rw [World.size_alloc] at this
    exact this
  obtain ⟨m0, m1, m2, m3, mf⟩ := cells4 hM
  obtain ⟨n0, n1, n2, n3, nf⟩ := cells4 hM2
  have k1 := T.conv_any (hx.below hbW).toT
  have k2 := T.conv_any (hy.below hbW).toT
  have HB := Lib.hid (And.intro hx.byt hy.byt)
  have HT : Hid (toldB l a t nm l' a' t' nm' = (decide (l = l') && (decide (a = a') && (decide (t = t') && decide (nm = nm'))))) := Lib.hid rfl
  generalize toldB l a t nm l' a' t' nm' = R at *
  obtain ⟨ax, cx, rfl⟩ := hx.shape'
  obtain ⟨ay, cy, rfl⟩ := hy.shape'
  have HW := Lib.hid hbW
  clear hbW hM hM2 hx hy
  by_cases q1 : l = l'
  · subst q1
    have p1 : (l == l) = true := by simp
    by_cases q2 : a = a'
    · subst q2
      have p2 : (a == a) = true := by simp
      by_cases q3 : t = t'
      · subst q3
        have p3 : (t == t) = true := by simp
        by_cases q4 : nm = nm'
        · subst q4
          have HR : Hid (R = true) := Lib.hid (by rw [HT.out]; simp)
          have p4 : ((T.bstr nm).toList == (T.bstr nm).toList) = true := by simp
          go_enter Tryd.func22, Tryd.ntmps22
          go_wp2_with fail
          go_ret
          exact ⟨retB (by rw [HR.out]), HW.out⟩
        · have HR : Hid (R = false) := Lib.hid (by rw [HT.out]; simp [q4])
          have p4 : ((T.bstr nm).toList == (T.bstr nm').toList) = false := by
            have := T.str_ne (fun e => q4 (bstr_inj HB.out.1 HB.out.2 e))
            simpa using this
          go_enter Tryd.func22, Tryd.ntmps22
          go_wp2_with fail
          go_ret
          exact ⟨retB (by rw [HR.out]), HW.out⟩
      · have HR : Hid (R = false) := Lib.hid (by rw [HT.out]; simp [q3])
        have p3 : (t == t') = false := by simp [q3]
        go_enter Tryd.func22, Tryd.ntmps22
        go_wp2_with fail
        go_ret
        exact ⟨retB (by rw [HR.out]), HW.out⟩
    · have HR : Hid (R = false) := Lib.hid (by rw [HT.out]; simp [q2])
      have p2 : (a == a') = false := by simp [q2]
      go_enter Tryd.func22, Tryd.ntmps22
      go_wp2_with fail
      go_ret
      exact ⟨retB (by rw [HR.out]), HW.out⟩
  · have HR : Hid (R = false) := Lib.hid (by rw [HT.out]; simp [q1])
    have p1 : (l == l') = false := by simp [q1]
    go_enter Tryd.func22, Tryd.ntmps22
    go_wp2_with fail
    go_ret
    exact ⟨retB (by rw [HR.out]), HW.out⟩
#print axioms told_any
end Go.Proofs.YtofklfahbhhoiaaDoor
