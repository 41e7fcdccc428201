/- hello.Read: term, bit. -/
import Derived.Test.YtefcjggmlhoebaaDoorGPure
import Derived.Laws.BytesString
import Derived.Lib.ConvBytes
import Derived.Test.YtefcjggmlhoebaaDoorHlEq
import Derived.Maps.Own
import Derived.Maps.OwnSet
import Derived.Laws.BitsLemmas
namespace Go.Proofs.YtefcjggmlhoebaaDoor
open Go Go.RowKit

/-- The text of bytes. -/
def bstr (zs : List Int) : ByteArray := zs.foldl (fun r n => r.push (UInt8.ofNat n.toNat)) ByteArray.empty
theorem bstr_size (zs : List Int) : (bstr zs).size = zs.length := by
  have : ∀ (zs : List Int) (r : ByteArray), (zs.foldl (fun r n => r.push (UInt8.ofNat n.toNat)) r).size = r.size + zs.length := by
    intro zs
    induction zs with
    | nil => intro r; rfl
    | cons z zs ih => intro r; simp only [List.foldl_cons]; rw [ih]; simp [ByteArray.size_push]; omega
  have h := this zs ByteArray.empty
  simpa [bstr] using h
theorem conv_any {w : World} {v : Value} {zs : List Int} (h : Rd w v zs) : (convert 22 9 v).run Tryd.prog w = .ok (.string (bstr zs)) w := by
  obtain ⟨ao, cap, rfl, h1, _, h3, _, hc⟩ := h
  rw [run_convert_bytes_string w 22 9 5 ao _ cap Tryd.underlying22 Tryd.underlying5 Tryd.underlying9]
  cases ao with
  | none =>
    have hcap := h3 rfl
    have hz : zs = [] := List.eq_nil_of_length_eq_zero (by omega)
    subst hz; subst hcap
    simp [Conv.bytesToString, bstr]
  | some a =>
    have hl := run_loadCells_list (P := Tryd.prog) w a (by8 zs) (fun j u hj => by
      have hj' : j < zs.length := by
        have := (List.getElem?_eq_some_iff.1 hj).1
        simpa [by8_len] using this
      rw [by8_get zs j hj'] at hj
      cases hj
      exact hc a rfl j hj')
    rw [by8_len] at hl
    rw [run_bytesToString w a zs.length cap zs hl]
    rfl
theorem bstr_inj {zs ys : List Int} (h1 : Byt zs) (h2 : Byt ys) (h : bstr zs = bstr ys) : zs = ys := by
  have key : ∀ (l : List Int) (r : ByteArray), (l.foldl (fun r n => r.push (UInt8.ofNat n.toNat)) r).data.toList = r.data.toList ++ l.map fun n => UInt8.ofNat n.toNat := by
    intro l
    induction l with
    | nil => intro r; simp
    | cons b l ih =>
      intro r
      simp only [List.foldl_cons, List.map_cons]
      rw [ih]
      simp [ByteArray.push]
  have e : zs.map (fun n => UInt8.ofNat n.toNat) = ys.map (fun n => UInt8.ofNat n.toNat) := by
    have a := key zs ByteArray.empty
    have b := key ys ByteArray.empty
    have h' : (zs.foldl (fun r n => r.push (UInt8.ofNat n.toNat)) ByteArray.empty) = (ys.foldl (fun r n => r.push (UInt8.ofNat n.toNat)) ByteArray.empty) := h
    rw [h'] at a
    rw [a] at b
    exact List.append_cancel_left b
  clear h key
  induction zs generalizing ys with
  | nil => cases ys with
    | nil => rfl
    | cons y ys => simp at e
  | cons z zs ih =>
    cases ys with
    | nil => simp at e
    | cons y ys =>
      simp only [List.map_cons, List.cons.injEq] at e
      have hz := h1 z (by simp)
      have hy := h2 y (by simp)
      have e1 := congrArg UInt8.toNat e.1
      simp only [UInt8.toNat_ofNat'] at e1
      have : z = y := by omega
      subst this
      rw [ih (fun u hu => h1 u (by simp [hu])) (fun u hu => h2 u (by simp [hu])) e.2]
/-- A text's bytes, as numbers. -/
def sbytes (s : ByteArray) : List Int := s.data.toList.map fun b => (b.toNat : Int)
theorem sbytes_len (s : ByteArray) : (sbytes s).length = s.size := by simp [sbytes]
theorem sbytes_byt (s : ByteArray) : Byt (sbytes s) := by
  intro z hz
  obtain ⟨b, _, rfl⟩ := List.mem_map.1 hz
  have := b.toNat_lt
  omega
theorem bstr_sbytes (s : ByteArray) : bstr (sbytes s) = s := by
  have key : ∀ (l : List UInt8) (r : ByteArray), (l.map (fun b => (b.toNat : Int))).foldl (fun r n => r.push (UInt8.ofNat n.toNat)) r = ⟨r.data ++ l.toArray⟩ := by
    intro l
    induction l with
    | nil => intro r; simp
    | cons b l ih =>
      intro r
      simp only [List.map_cons, List.foldl_cons]
      rw [ih]
      simp [ByteArray.push]
  unfold bstr sbytes
  rw [key]
  have e : (ByteArray.empty.data ++ s.data.toList.toArray) = s.data := by
    show (#[] : Array UInt8) ++ s.data.toList.toArray = s.data
    simp
  rw [e]
theorem sbytes_bstr {zs : List Int} (h : Byt zs) : sbytes (bstr zs) = zs := bstr_inj (sbytes_byt _) h (bstr_sbytes _)
theorem conv_str (w : World) (s : ByteArray) (hs : s.size ≤ maxLen) : ∃ v w', (convert 9 22 (.string s)).run Tryd.prog w = .ok v w' ∧ Ra w.heap.size w' v (sbytes s) ∧ Plain v ∧ Below w.heap.size w w' := by
  have hr := Lib.run_convert_string_bytes (P := Tryd.prog) w 9 22 5 s Tryd.underlying9 Tryd.underlying22 Tryd.underlying5
  refine ⟨_, _, hr, ⟨?_, fun a n c e _ => by cases e; exact Nat.le_refl _⟩, .inr ⟨_, _, _, _, rfl⟩, ?_⟩
  · refine ⟨some ⟨w.heap.size, 0, none⟩, grownCap w s.size 0 5, by rw [sbytes_len], by rw [sbytes_len]; exact grownCap_ge _ _ _ _, grownCap_le_maxLen _ _ _ _ hs, (fun h => by cases h), sbytes_byt s, fun a ha j hj => ?_⟩
    cases ha
    rw [sbytes_len] at hj
    rw [Addr.add_lit, Nat.zero_add, Lib.bytesWorld_cell w 5 s j hj]
    simp [sbytes, List.getD, hj]
  · exact ⟨rfl, rfl, rfl, by rw [Lib.bytesWorld_size]; omega, fun k hk => Lib.bytesWorld_at_old w 5 s k hk⟩
#print axioms conv_any
#print axioms conv_str
end Go.Proofs.YtefcjggmlhoebaaDoor
namespace Go.Proofs.YtefcjggmlhoebaaDoor
open Go Go.RowKit
open Go.Maps (Keyed)

theorem add_block (a : Addr) (k : Nat) : (a.add k).block = a.block := by unfold Addr.add; split <;> rfl
theorem Ra.keep {lo : Nat} {w w' : World} {v : Value} {zs : List Int} (h : Ra lo w v zs) (hb : ∀ k, k < w.heap.size → lo ≤ k → w'.heap[k]? = w.heap[k]?) : Ra lo w' v zs := by
  refine ⟨?_, h.far⟩
  obtain ⟨ao, cap, hv, h1, h2, h3, h4, hc⟩ := h.rd
  refine ⟨ao, cap, hv, h1, h2, h3, h4, fun a ha j hj => ?_⟩
  have hz : zs ≠ [] := fun e => by rw [e] at hj; simp at hj
  have hf := h.far a zs.length cap (by rw [hv, ha]) hz
  have hx := hc a ha j hj
  have hlt := cell_lt hx
  rw [add_block] at hlt
  have key : w'.cell? (a.add j) = w.cell? (a.add j) := by
    unfold World.cell?
    rw [add_block, hb _ hlt hf]
  rw [key]; exact hx
/-- Nothing but two blocks has changed of what was there. -/
structure Kq (R D : Nat) (w w' : World) : Prop where
  os : w'.os = w.os
  tape : w'.tape = w.tape
  output : w'.output = w.output
  size : w.heap.size ≤ w'.heap.size
  block : ∀ k, k < w.heap.size → k ≠ R → k ≠ D → w'.heap[k]? = w.heap[k]?
theorem Kq.refl (R D : Nat) (w : World) : Kq R D w w := ⟨rfl, rfl, rfl, Nat.le_refl _, fun _ _ _ _ => rfl⟩
theorem Kq.trans {R D : Nat} {a b c : World} (h : Kq R D a b) (k : Kq R D b c) : Kq R D a c :=
  ⟨k.os.trans h.os, k.tape.trans h.tape, k.output.trans h.output, Nat.le_trans h.size k.size, fun i hi hn hm => (k.block i (Nat.lt_of_lt_of_le hi h.size) hn hm).trans (h.block i hi hn hm)⟩
theorem Kq.l {R D : Nat} {w w' : World} (h : But R w w') : Kq R D w w' := ⟨h.os, h.tape, h.output, h.size, fun k hk hn _ => h.block k hk hn⟩
theorem Kq.r {R D : Nat} {w w' : World} (h : But D w w') : Kq R D w w' := ⟨h.os, h.tape, h.output, h.size, fun k hk _ hn => h.block k hk hn⟩
theorem Kq.of_below {R D : Nat} {w w' : World} (h : Below w.heap.size w w') : Kq R D w w' := ⟨h.os, h.tape, h.output, h.size, fun k hk _ _ => h.block k hk⟩
theorem Kq.below {R D : Nat} {w0 w w' : World} (h : Kq R D w w') (hb : Below w0.heap.size w0 w) (hR : w0.heap.size ≤ R) (hD : w0.heap.size ≤ D) : Below w0.heap.size w0 w' :=
  ⟨h.os.trans hb.os, h.tape.trans hb.tape, h.output.trans hb.output, Nat.le_trans hb.size h.size, fun k hk => (h.block k (Nat.lt_of_lt_of_le hk hb.size) (by omega) (by omega)).trans (hb.block k hk)⟩
theorem Kq.bel {R D : Nat} {w w1 w3 : World} (h : Kq R D w w1) (hb : Below w.heap.size w1 w3) : Kq R D w w3 :=
  ⟨hb.os.trans h.os, hb.tape.trans h.tape, hb.output.trans h.output, Nat.le_trans h.size hb.size, fun k hk hn hm => (hb.block k hk).trans (h.block k hk hn hm)⟩
theorem enterp {F : Nat} {fn : Func} (hf : Tryd.prog.funcs[F]? = some fn) (hn : (fn.name == "runtime.NumGoroutine") = false) (hb : fn.body.isNone = false) (args : Array Value) (w : World) : (callFunc F args).run Tryd.prog w = .ok (.enter F args) w := by
  have hn' : ¬ fn.name = "runtime.NumGoroutine" := by simpa using hn
  have hb' : ¬ fn.body = none := by intro e; rw [e] at hb; cases hb
  simp [callFunc, hf, hn', hb']
theorem Fq.kq {w0 w w' : World} {R D B : Nat} {rest : List Int} {t : Nat} {short : Int} (h : Fq w0 w B rest t short) (hb : Kq R D w w') (hR : w0.heap.size ≤ R) (hD : w0.heap.size ≤ D) (h1 : B ≠ R) (h2 : B ≠ D) : Fq w0 w' B rest t short := by
  obtain ⟨rv, h3, h4⟩ := h.box
  exact ⟨hb.below h.bel hR hD, h.lo, h.sum, rv, by rw [hb.block B h.lt h1 h2]; exact h3, h4⟩
theorem gvar_yes {zs : List Int} {t t' : Nat} {n : Int} (h : gVar zs t = some (n, t')) : ∃ k : Nat, t' = t + k ∧ (rd (zs.drop t)).2.2 = 0 ∧ (rd (zs.drop t)).1 = n ∧ (rd (zs.drop t)).2.1.toNat = k := by
  unfold gVar at h
  split at h
  · rename_i h0
    simp only [Option.some.injEq, Prod.mk.injEq] at h
    exact ⟨_, h.2.symm, h0, h.1, rfl⟩
  · cases h
/-- Number, by places. -/
theorem gnum_yes {w0 w : World} {B t t' : Nat} {zs : List Int} {n : Int} (hF : Fq w0 w B (zs.drop t) t 3) (hb : Byt zs) (h : gVar zs t = some (n, t')) :
    Calls Tryd.prog 83 #[.pointer (some ⟨B, 0, none⟩)] w fun e w' => e = .returned (.int .i64 n) ∧ Fq w0 w' B (zs.drop t') t' 3 ∧ But B w w' := by
  obtain ⟨k, rfl, h0, h1, h2⟩ := gvar_yes h
  rcases rd_size (hb.drop t) with ⟨_, _, k', ek, _, _, hk⟩ | ⟨_, _, h3⟩
  · have : k' = k := by rw [ek] at h2; simpa using h2
    subst this
    have hrd : rd (zs.drop t) = (n, (k' : Int), 0) := Prod.ext h1 (Prod.ext ek h0)
    refine (number_q hF n k' hrd hk).mono ?_
    rintro e w' ⟨rfl, hF', hB⟩
    rw [List.drop_drop] at hF'
    exact ⟨rfl, hF', hB⟩
  · omega
theorem gnum_no {w0 w : World} {B t : Nat} {zs : List Int} (hF : Fq w0 w B (zs.drop t) t 3) (hb : Byt zs) (h : gVar zs t = none) :
    Calls Tryd.prog 83 #[.pointer (some ⟨B, 0, none⟩)] w fun e w' => e = errPanic 3 ∧ But B w w' := by
  rcases rd_size (hb.drop t) with ⟨h0, _⟩ | ⟨h1, h2, h3⟩
  · unfold gVar at h
    rw [if_pos h0] at h
    cases h
  · have hrd : rd (zs.drop t) = (0, 0, (rd (zs.drop t)).2.2) := Prod.ext h1 (Prod.ext h2 rfl)
    have hn := number_e hF _ hrd h3
    have e4 : (if (rd (zs.drop t)).2.2 = 2 then (3 : Int) else (rd (zs.drop t)).2.2) = 3 := by split <;> omega
    rw [e4] at hn
    exact hn
/-- Bytes, by places. -/
theorem gbytes_yes {w0 w : World} {B t t' : Nat} {zs l : List Int} {n : Nat} (hF : Fq w0 w B (zs.drop t) t 3) (h : gBytes zs n t = some (l, t')) :
    Calls Tryd.prog 84 #[.pointer (some ⟨B, 0, none⟩), .int .i64 (n : Int)] w fun e w' => ∃ v, e = .returned v ∧ (Ra w.heap.size w' v l ∧ Plain v) ∧ Fq w0 w' B (zs.drop t') t' 3 ∧ But B w w' := by
  unfold gBytes at h
  split at h
  · cases h
  · rename_i hl
    simp only [Option.some.injEq, Prod.mk.injEq] at h
    obtain ⟨rfl, rfl⟩ := h
    refine (bytes_q hF n (by omega)).mono ?_
    rintro e w' ⟨v, rfl, hv, hF', hB⟩
    rw [List.drop_drop] at hF'
    exact ⟨v, rfl, hv, hF', hB⟩
theorem gbytes_no {w0 w : World} {B t : Nat} {zs : List Int} {n : Nat} (hF : Fq w0 w B (zs.drop t) t 3) (h : gBytes zs n t = none) :
    Calls Tryd.prog 84 #[.pointer (some ⟨B, 0, none⟩), .int .i64 (n : Int)] w fun e w' => e = errPanic 3 ∧ But B w w' := by
  unfold gBytes at h
  split at h
  · rename_i hl
    exact bytes_e hF n (by omega)
  · cases h
theorem gvar_bd {zs : List Int} (hb : Byt zs) {t t' : Nat} {n : Int} (h : gVar zs t = some (n, t')) : numR n ∧ t < t' ∧ t' ≤ zs.length := (gvar_inv hb h).2
theorem fq_set {w0 w : World} {R B t i : Nat} {rest : List Int} {x : Value} (h : Fq w0 w B rest t 3) (hR : w0.heap.size ≤ R) (hne : B ≠ R) : Fq w0 (w.setCell ⟨R, i, none⟩ x) B rest t 3 := h.but (But.set w R i x) hR hne
theorem keyM : Keyed Tryd.prog 3 := Go.Maps.int_keyed Tryd.underlying3
theorem keyOfM {k : Int} (h : (Lit.int .i64 k).wf = true) : keyOf Tryd.prog 3 (.int .i64 k) = some (.int .i64 k) := by
  simp [keyOf, Tryd.underlying3, mapKey, h]
theorem wfM {k : Int} (h0 : 0 ≤ k) (h1 : k ≤ 9223372036854775807) : (Lit.int .i64 k).wf = true := by
  simp [Lit.wf, IntKind.min, IntKind.max, IntKind.bits, IntKind.signed]; omega
/-- A function among the map's elements is told by itself. -/
def fR (v : Value) : Option (DataW Value × List MemPlace) :=
  match v with
  | .func _ _ _ => some (.held v, [])
  | .nilFunc => some (.held v, [])
  | _ => none
theorem fR_func (f : Fn) (a c : Array Value) : fR (.func f a c) = some (.held (.func f a c), []) := rfl
theorem fR_inv {v : Value} {y : DataW Value × List MemPlace} (h : fR v = some y) : y = (.held v, []) := by
  cases v <;> simp [fR] at h <;> exact h.symm
theorem zeroF (w : World) : (zeroValue 1).run Tryd.prog w = .ok .nilFunc w := by kernel_rfl
/-- What the map's datum says of f. -/
def SaysF (D : DataW Value) (f : Int → Option Value) : Prop := ∀ k, (Lit.int .i64 k).wf = true → (f k = none → Maps.has D (.int .i64 k) = false) ∧ ∀ v, f k = some v → Maps.has D (.int .i64 k) = true ∧ ∀ z, D.atKey (.int .i64 k) z = .held v
/-- Block mb is a map of at most n entries that holds f's values at their keys, and nothing else. -/
def MapF (w : World) (mb n : Nat) (f : Int → Option Value) : Prop := ∃ D : DataW Value, w.ownsMap Tryd.prog 3 fR mb n D ∧ SaysF D f
theorem MapF.made (w : World) : MapF (w.alloc (.map #[] 0)) w.heap.size 0 (fun _ => none) :=
  ⟨.map [], World.ownsMap_made _ _ _ _, fun k _ => ⟨fun _ => rfl, fun v h => by cases h⟩⟩
theorem MapF.lt {w : World} {mb n : Nat} {f : Int → Option Value} (h : MapF w mb n f) : mb < w.heap.size := by
  obtain ⟨D, h1, _⟩ := h; exact h1.lt
theorem MapF.keep {w w' : World} {mb n : Nat} {f : Int → Option Value} (h : MapF w mb n f) (e : w'.heap[mb]? = w.heap[mb]?) : MapF w' mb n f := by
  obtain ⟨D, ⟨es, clock, hb, r⟩, h2⟩ := h
  exact ⟨D, ⟨es, clock, by rw [e]; exact hb, r⟩, h2⟩
theorem MapF.below {w w' : World} {mb n : Nat} {f : Int → Option Value} (h : MapF w mb n f) (hb : Below w.heap.size w w') : MapF w' mb n f := h.keep (hb.block mb h.lt)
theorem MapF.mono {w : World} {mb n n' : Nat} {f : Int → Option Value} (h : MapF w mb n f) (hn : n ≤ n') : MapF w mb n' f := by
  obtain ⟨D, h1, h2⟩ := h
  exact ⟨D, h1.mono hn, h2⟩
/-- A look-up, and whether it is there. -/
theorem MapF.look {w : World} {mb n : Nat} {f : Int → Option Value} (h : MapF w mb n f) {k : Int} (hk : (Lit.int .i64 k).wf = true) :
    (Instr.lookup 90 (.map (some mb)) (.int .i64 k) true).run Tryd.prog w = .ok (.tuple #[(f k).getD .nilFunc, .bool (f k).isSome]) w := by
  obtain ⟨D, h1, h2⟩ := h
  obtain ⟨h3, h4⟩ := h2 k hk
  obtain ⟨v, q, hrun, hv⟩ := h1.look_ok keyM Tryd.underlying90 (zeroF w) (show fR .nilFunc = some (.held .nilFunc, []) from rfl) (keyOfM hk)
  have e := fR_inv hv
  simp only [Prod.mk.injEq] at e
  rw [hrun]
  cases hf : f k with
  | none =>
    rw [Maps.atKey_of_not_has (h3 hf)] at e
    simp only [DataW.held.injEq] at e
    rw [← e.1, h3 hf]; rfl
  | some u =>
    rw [(h4 u hf).2] at e
    simp only [DataW.held.injEq] at e
    rw [← e.1, (h4 u hf).1]; rfl
/-- A store. -/
theorem MapF.update {w : World} {mb n : Nat} {f : Int → Option Value} (h : MapF w mb n f) (hn : n < maxLen) {k : Int} (hk : (Lit.int .i64 k).wf = true) (g : Fn) (a c : Array Value) :
    ∃ w', (Instr.mapUpdate 90 (.map (some mb)) (.int .i64 k) (.func g a c)).run Tryd.prog w = .ok () w' ∧ MapF w' mb (n + 1) (fun j => if j = k then some (.func g a c) else f j) ∧ w.grownBy w' (some mb) := by
  obtain ⟨D, h1, h2⟩ := h
  obtain ⟨w', hrun, hw, hg⟩ := h1.update keyM Tryd.underlying90 hn (keyOfM hk) (fR_func g a c)
  refine ⟨w', hrun, ⟨_, hw, fun j hj => ?_⟩, hg⟩
  by_cases e : j = k
  · subst e
    dsimp only
    rw [if_pos rfl]
    refine ⟨(fun h => by cases h), fun v hv => ?_⟩
    cases hv
    exact ⟨Maps.has_put_same h1.isMap (keyM.key (keyOfM hj)) _, fun z => Maps.atKey_put_same h1.isMap (keyM.key (keyOfM hj)) _ _⟩
  · have hne : (Lit.int IntKind.i64 j) ≠ .int .i64 k := fun h => e (by cases h; rfl)
    dsimp only
    rw [if_neg e]
    obtain ⟨h3, h4⟩ := h2 j hj
    refine ⟨fun hf => ?_, fun v hv => ?_⟩
    · rw [Maps.has_put_other hne]; exact h3 hf
    · rw [Maps.has_put_other hne]; exact ⟨(h4 v hv).1, fun z => by rw [Maps.atKey_put_other hne]; exact (h4 v hv).2 z⟩
/-- A delete. -/
theorem MapF.drop {w : World} {mb n : Nat} {f : Int → Option Value} (h : MapF w mb n f) {k : Int} (hk : (Lit.int .i64 k).wf = true) (ty : TypeId) :
    ∃ w', (Builtin.delete_ #[90, 3] ty #[.map (some mb), .int .i64 k]).run Tryd.prog w = .ok (.tuple #[]) w' ∧ MapF w' mb n (fun j => if j = k then none else f j) ∧ w.grownBy w' (some mb) := by
  obtain ⟨D, h1, h2⟩ := h
  obtain ⟨w', hrun, hw, hg⟩ := h1.drop keyM Tryd.underlying90 (keyOfM hk) ty
  refine ⟨w', hrun, ⟨_, hw, fun j hj => ?_⟩, hg.grown⟩
  by_cases e : j = k
  · subst e
    dsimp only
    rw [if_pos rfl]
    exact ⟨fun _ => Maps.has_del_same, fun v hv => by cases hv⟩
  · have hne : (Lit.int IntKind.i64 j) ≠ .int .i64 k := fun h => e (by cases h; rfl)
    dsimp only
    rw [if_neg e]
    obtain ⟨h3, h4⟩ := h2 j hj
    refine ⟨fun hf => ?_, fun v hv => ?_⟩
    · rw [Maps.has_del_other hne]; exact h3 hf
    · rw [Maps.has_del_other hne]; exact ⟨(h4 v hv).1, fun z => by rw [Maps.atKey_del_other hne]; exact (h4 v hv).2 z⟩
theorem SaysF.del {D : DataW Value} {f : Int → Option Value} (h : SaysF D f) (k : Int) : SaysF (D.del (.int .i64 k)) (fun j => if j = k then none else f j) := fun j hj => by
  by_cases e : j = k
  · subst e
    dsimp only
    rw [if_pos rfl]
    exact ⟨fun _ => Maps.has_del_same, fun v hv => by cases hv⟩
  · have hne : (Lit.int IntKind.i64 j) ≠ .int .i64 k := fun h => e (by cases h; rfl)
    dsimp only
    rw [if_neg e]
    obtain ⟨h3, h4⟩ := h j hj
    refine ⟨fun hf => ?_, fun v hv => ?_⟩
    · rw [Maps.has_del_other hne]; exact h3 hf
    · rw [Maps.has_del_other hne]; exact ⟨(h4 v hv).1, fun z => by rw [Maps.atKey_del_other hne]; exact (h4 v hv).2 z⟩

theorem MapF.ext {w : World} {mb n : Nat} {f g : Int → Option Value} (h : MapF w mb n f) (e : ∀ k, f k = g k) : MapF w mb n g := by
  have : f = g := funext e
  rw [← this]; exact h
theorem made_run (w : World) : (Instr.makeMap 90 none).run Tryd.prog w = .ok (.map (some w.heap.size)) (w.alloc (.map #[] 0)) := by kernel_rfl
/-- The reader's cells: where the fields' reader lies, and the message. -/
def hCells (B : Nat) (x : Hm) (pv : Value) : Array Value := #[.pointer (some ⟨B, 0, none⟩), .int .i64 x.k, .int .i64 x.r, .int .i64 x.s, .int .i64 x.t, .int .i64 x.m, .bool x.f, pv, .string (bstr x.n), .int .i64 x.v, .int .i64 x.l]
/-- The reader in the box R: the fields' reader in B, the message as far as it is taken; its params lie from lo on. -/
structure Hq (w : World) (R B lo : Nat) (x : Hm) (pv : Value) : Prop where
  box : w.heap[R]? = some (.cells (hCells B x pv) 59 (0, 0))
  d : Ra lo w pv x.p
  pl : Plain pv
  ord : B < R ∧ R < lo ∧ lo ≤ w.heap.size
theorem Hq.lt {w : World} {R B lo : Nat} {x : Hm} {pv : Value} (h : Hq w R B lo x pv) : R < w.heap.size := by have := h.ord; omega
theorem Hq.cells {w : World} {R B lo : Nat} {x : Hm} {pv : Value} (h : Hq w R B lo x pv) :
    w.cell? ⟨R, 0, none⟩ = some (.pointer (some ⟨B, 0, none⟩)) ∧ (w.cell? ⟨R, 1, none⟩ = some (.int .i64 x.k) ∧ w.cell? ⟨R, 2, none⟩ = some (.int .i64 x.r) ∧ w.cell? ⟨R, 3, none⟩ = some (.int .i64 x.s) ∧ w.cell? ⟨R, 4, none⟩ = some (.int .i64 x.t) ∧ w.cell? ⟨R, 5, none⟩ = some (.int .i64 x.m) ∧
    w.cell? ⟨R, 6, none⟩ = some (.bool x.f) ∧ w.cell? ⟨R, 7, none⟩ = some pv ∧ w.cell? ⟨R, 8, none⟩ = some (.string (bstr x.n)) ∧ w.cell? ⟨R, 9, none⟩ = some (.int .i64 x.v) ∧ w.cell? ⟨R, 10, none⟩ = some (.int .i64 x.l)) ∧ (∀ j, w.frozen? ⟨R, j, none⟩ = false) :=
  have c := fun j => cell_of_row w R j _ _ (0, 0) h.box
  ⟨(c 0).trans rfl, ⟨(c 1).trans rfl, (c 2).trans rfl, (c 3).trans rfl, (c 4).trans rfl, (c 5).trans rfl, (c 6).trans rfl, (c 7).trans rfl, (c 8).trans rfl, (c 9).trans rfl, (c 10).trans rfl⟩, fun j => by simp [World.frozen?, h.box]⟩
theorem Hq.keep {w w' : World} {R B lo K : Nat} {x : Hm} {pv : Value} (h : Hq w R B lo x pv) (hb : But K w w') (hne : R ≠ K) (hK : K < lo) : Hq w' R B lo x pv := by
  obtain ⟨o1, o2, o3⟩ := h.ord
  exact ⟨by rw [hb.block R h.lt hne]; exact h.box, h.d.keep fun k hk hl => hb.block k hk (by omega), h.pl, o1, o2, Nat.le_trans o3 hb.size⟩
theorem Hq.below {w w' : World} {R B lo : Nat} {x : Hm} {pv : Value} (h : Hq w R B lo x pv) (hb : Below w.heap.size w w') : Hq w' R B lo x pv := by
  obtain ⟨o1, o2, o3⟩ := h.ord
  exact ⟨by rw [hb.block R h.lt]; exact h.box, h.d.keep fun k hk hl => hb.block k hk, h.pl, o1, o2, Nat.le_trans o3 hb.size⟩
/-- A store into the box. -/
theorem Hq.set {w : World} {R B lo : Nat} {x : Hm} {pv : Value} (h : Hq w R B lo x pv) (i : Nat) (u : Value) {x' : Hm} {pv' : Value} (hc : (hCells B x pv).setIfInBounds i u = hCells B x' pv') (hd : Ra lo w pv' x'.p) (hp : Plain pv') : Hq (w.setCell ⟨R, i, none⟩ u) R B lo x' pv' := by
  obtain ⟨o1, o2, o3⟩ := h.ord
  have e0 := heap_setCell_same w R i _ 59 u h.box
  rw [hc] at e0
  exact ⟨e0, hd.keep fun k hk hl => Below.heap_setCell _ _ _ _ (show k ≠ R by omega), hp, o1, o2, by simpa [World.setCell] using o3⟩
theorem Hq.setk {w : World} {R B lo : Nat} {x : Hm} {pv : Value} (h : Hq w R B lo x pv) (n : Int) : Hq (w.setCell ⟨R, 1, none⟩ (.int .i64 n)) R B lo { x with k := n } pv := h.set 1 _ rfl h.d h.pl
theorem Hq.setr {w : World} {R B lo : Nat} {x : Hm} {pv : Value} (h : Hq w R B lo x pv) (n : Int) : Hq (w.setCell ⟨R, 2, none⟩ (.int .i64 n)) R B lo { x with r := n } pv := h.set 2 _ rfl h.d h.pl
theorem Hq.sets {w : World} {R B lo : Nat} {x : Hm} {pv : Value} (h : Hq w R B lo x pv) (n : Int) : Hq (w.setCell ⟨R, 3, none⟩ (.int .i64 n)) R B lo { x with s := n } pv := h.set 3 _ rfl h.d h.pl
theorem Hq.sett {w : World} {R B lo : Nat} {x : Hm} {pv : Value} (h : Hq w R B lo x pv) (n : Int) : Hq (w.setCell ⟨R, 4, none⟩ (.int .i64 n)) R B lo { x with t := n } pv := h.set 4 _ rfl h.d h.pl
theorem Hq.setm {w : World} {R B lo : Nat} {x : Hm} {pv : Value} (h : Hq w R B lo x pv) (n : Int) : Hq (w.setCell ⟨R, 5, none⟩ (.int .i64 n)) R B lo { x with m := n } pv := h.set 5 _ rfl h.d h.pl
theorem Hq.setf {w : World} {R B lo : Nat} {x : Hm} {pv : Value} (h : Hq w R B lo x pv) (b : Bool) : Hq (w.setCell ⟨R, 6, none⟩ (.bool b)) R B lo { x with f := b } pv := h.set 6 _ rfl h.d h.pl
theorem Hq.setp {w : World} {R B lo : Nat} {x : Hm} {pv u : Value} {zs : List Int} (h : Hq w R B lo x pv) (hu : Ra lo w u zs) (hp : Plain u) : Hq (w.setCell ⟨R, 7, none⟩ u) R B lo { x with p := zs } u := h.set 7 _ rfl hu hp
theorem Hq.setn {w : World} {R B lo : Nat} {x : Hm} {pv : Value} (h : Hq w R B lo x pv) (zs : List Int) : Hq (w.setCell ⟨R, 8, none⟩ (.string (bstr zs))) R B lo { x with n := zs } pv := h.set 8 _ rfl h.d h.pl
theorem Hq.setv {w : World} {R B lo : Nat} {x : Hm} {pv : Value} (h : Hq w R B lo x pv) (n : Int) : Hq (w.setCell ⟨R, 9, none⟩ (.int .i64 n)) R B lo { x with v := n } pv := h.set 9 _ rfl h.d h.pl
theorem Hq.setl {w : World} {R B lo : Nat} {x : Hm} {pv : Value} (h : Hq w R B lo x pv) (n : Int) : Hq (w.setCell ⟨R, 10, none⟩ (.int .i64 n)) R B lo { x with l := n } pv := h.set 10 _ rfl h.d h.pl
/-- What a method that takes something does: it panics with 3 where that has no form. -/
def Hdo (zs : List Int) (w0 w : World) (R B lo : Nat) (res : Option (Hm × Nat)) (e : Ending) (w' : World) : Prop :=
  (e = errPanic 3 ∧ Kq R B w w' ∧ res = none) ∨ ∃ x' pv' t', e = .returned (.tuple #[]) ∧ res = some (x', t') ∧ Hq w' R B lo x' pv' ∧ Fq w0 w' B (zs.drop t') t' 3 ∧ Kq R B w w'
end Go.Proofs.YtefcjggmlhoebaaDoor
namespace Go.Proofs.YtefcjggmlhoebaaDoor
open Go Go.RowKit

def Hterm (zs : List Int) (t : Nat) (w0 w : World) (B : Nat) (e : Ending) (w' : World) : Prop :=
  (e = errPanic 3 ∧ But B w w' ∧ gTerm zs t = none) ∨ ∃ h, e = .returned (.int .i64 h) ∧ gTerm zs t = some (h, t + 4) ∧ Fq w0 w' B (zs.drop (t + 4)) (t + 4) 3 ∧ But B w w'
set_option maxRecDepth 20000 in
set_option maxHeartbeats 2000000 in
theorem hterm_m {zs : List Int} {t : Nat} {w0 w : World} {R B lo : Nat} {x : Hm} {pv : Value} (g : Hq w R B lo x pv) (hF : Fq w0 w B (zs.drop t) t 3) :
    Calls Tryd.prog 89 #[.pointer (some ⟨R, 0, none⟩)] w (Hterm zs t w0 w B) := by
  obtain ⟨c0, _, cf⟩ := g.cells
  rcases hterm_open (zs := zs) (t := t) with ⟨hb, hg⟩ | ⟨l, hb, hl, hn⟩
  · have hr := gbytes_no hF hb
    have HT := Lib.hid hg
    clear g hF hb hg
    go_enter Tryd.func89, Tryd.ntmps89
    go_wp2_with (go_at_call 84; refine hr.mono ?_; rintro e w1 ⟨he, hb1⟩; rw [errPanic] at he; subst he)
    exact ⟨rfl, .inl ⟨rfl, hb1, HT.out⟩⟩
  · have hr := gbytes_yes hF hb
    rcases hn with ⟨hn0, hg⟩ | ⟨hn0, hg, h1, h2⟩
    · have HT := Lib.hid hg
      have hd : decide (numd l ≠ 0) = false := decide_eq_false (by omega)
      have hwn := fun w1 => want_no w1 3
      have hnb := fun (w1 : World) (v : Value) (h : Rd w1 v l) => numbered_any h h.byt
      rw [hd, hn0] at hnb
      clear g hF hb hg hd hn0
      go_enter Tryd.func89, Tryd.ntmps89
      go_wp2_with (first
        | (go_at_call 84; refine hr.mono ?_; rintro e w1 ⟨v1, rfl, ⟨hv, _⟩, hF1, hb1⟩)
        | (go_at_call 103; refine (hnb _ _ hv.rd).mono ?_; rintro e w2 ⟨rfl, rfl⟩)
        | (go_at_call 39; refine (hwn _).mono ?_; rintro e w2 ⟨he, rfl⟩; rw [errPanic] at he; subst he))
      exact ⟨rfl, .inl ⟨rfl, hb1, HT.out⟩⟩
    · have HT := Lib.hid hg
      have hd : decide (numd l ≠ 0) = true := decide_eq_true hn0
      have hwn := fun w1 => want_yes w1 3
      have hnb := fun (w1 : World) (v : Value) (h : Rd w1 v l) => numbered_any h h.byt
      rw [hd] at hnb
      clear g hF hb hg hd hn0
      generalize numd l = nn at *
      go_enter Tryd.func89, Tryd.ntmps89
      go_wp2_with (first
        | (go_at_call 84; refine hr.mono ?_; rintro e w1 ⟨v1, rfl, ⟨hv, _⟩, hF1, hb1⟩)
        | (go_at_call 103; refine (hnb _ _ hv.rd).mono ?_; rintro e w2 ⟨rfl, rfl⟩)
        | (go_at_call 39; refine (hwn _).mono ?_; rintro e w2 ⟨rfl, rfl⟩))
      go_ret
      exact .inr ⟨nn, rfl, HT.out, hF1, hb1⟩
def Hbit (zs : List Int) (t : Nat) (w0 w : World) (B : Nat) (e : Ending) (w' : World) : Prop :=
  (e = errPanic 3 ∧ But B w w' ∧ hFlag zs t = none) ∨ ∃ b, e = .returned (.bool b) ∧ hFlag zs t = some (b, t + 1) ∧ Fq w0 w' B (zs.drop (t + 1)) (t + 1) 3 ∧ But B w w'
set_option maxRecDepth 20000 in
set_option maxHeartbeats 2000000 in
theorem hbit_m {zs : List Int} {t : Nat} {w0 w : World} {R B lo : Nat} {x : Hm} {pv : Value} (g : Hq w R B lo x pv) (hF : Fq w0 w B (zs.drop t) t 3) (hbt : Byt zs) :
    Calls Tryd.prog 88 #[.pointer (some ⟨R, 0, none⟩)] w (Hbit zs t w0 w B) := by
  obtain ⟨c0, _, cf⟩ := g.cells
  cases hz : zs.drop t with
  | nil =>
    have hx := fixed_e hF 1 (by rw [hz]; simp)
    have HT : Hid (hFlag zs t = none) := Lib.hid (by unfold hFlag; rw [hz])
    clear g hF hz
    go_enter Tryd.func88, Tryd.ntmps88
    go_wp2_with (go_at_call 60; refine hx.mono ?_; rintro e w1 ⟨he, hb1⟩; rw [errPanic] at he; subst he)
    exact ⟨rfl, .inl ⟨rfl, hb1, HT.out⟩⟩
  | cons z r =>
    have hzb := (hbt.drop t) z (by rw [hz]; simp)
    have hx := fixed_q hF 1 (by omega) (by omega) (by rw [hz]; simp)
    have hbz : bigv ((zs.drop t).take 1) 0 = z := by rw [hz]; simp [bigv]
    have hdd : (zs.drop t).drop 1 = zs.drop (t + 1) := by rw [List.drop_drop]
    rw [hbz, hdd] at hx
    by_cases hz1 : 1 < z
    · have HT : Hid (hFlag zs t = none) := Lib.hid (by unfold hFlag; rw [hz]; simp only; rw [if_neg (by omega), if_neg (by omega)])
      have hwn := fun w1 => want_no w1 3
      have hd : decide (z ≤ 1) = false := decide_eq_false (by omega)
      clear g hF hz hbz hdd
      go_enter Tryd.func88, Tryd.ntmps88
      go_wp2_with (first
        | (go_at_call 60; refine hx.mono ?_; rintro e w1 ⟨rfl, hF1, hb1⟩)
        | (go_at_call 39; refine (hwn _).mono ?_; rintro e w2 ⟨he, rfl⟩; rw [errPanic] at he; subst he))
      exact ⟨rfl, .inl ⟨rfl, hb1, HT.out⟩⟩
    · have hz01 : z = 0 ∨ z = 1 := by omega
      have hwn := fun w1 => want_yes w1 3
      rcases hz01 with rfl | rfl
      · have HT : Hid (hFlag zs t = some (false, t + 1)) := Lib.hid (by unfold hFlag; rw [hz]; simp)
        clear g hF hz hbz hdd
        go_enter Tryd.func88, Tryd.ntmps88
        go_wp2_with (first
          | (go_at_call 60; refine hx.mono ?_; rintro e w1 ⟨rfl, hF1, hb1⟩)
          | (go_at_call 39; refine (hwn _).mono ?_; rintro e w2 ⟨rfl, rfl⟩))
        go_ret
        exact .inr ⟨false, rfl, HT.out, hF1, hb1⟩
      · have HT : Hid (hFlag zs t = some (true, t + 1)) := Lib.hid (by unfold hFlag; rw [hz]; simp)
        clear g hF hz hbz hdd
        go_enter Tryd.func88, Tryd.ntmps88
        go_wp2_with (first
          | (go_at_call 60; refine hx.mono ?_; rintro e w1 ⟨rfl, hF1, hb1⟩)
          | (go_at_call 39; refine (hwn _).mono ?_; rintro e w2 ⟨rfl, rfl⟩))
        go_ret
        exact .inr ⟨true, rfl, HT.out, hF1, hb1⟩
#print axioms hterm_m
#print axioms hbit_m
end Go.Proofs.YtefcjggmlhoebaaDoor
