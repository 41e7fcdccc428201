/- sched: the calls of the chapter, each by plain functions of the table's nodes. -/
import Derived.Test.YtipgidcpocgojaaSc1
import Derived.Lib.SlBytesConst
import Derived.Lib.SmallJoins
namespace Go.Proofs.Ytipgidcpocgojaa
open Go Go.RowKit

/-- client in -/
abbrev lClientIn : ByteArray := ⟨#[99, 108, 105, 101, 110, 116, 32, 105, 110]⟩
/-- server in -/
abbrev lServerIn : ByteArray := ⟨#[115, 101, 114, 118, 101, 114, 32, 105, 110]⟩
/-- early -/
abbrev lEarly : ByteArray := ⟨#[101, 97, 114, 108, 121]⟩
/-- client early -/
abbrev lClientEarly : ByteArray := ⟨#[99, 108, 105, 101, 110, 116, 32, 101, 97, 114, 108, 121]⟩
/-- handshake -/
abbrev lHandshake : ByteArray := ⟨#[104, 97, 110, 100, 115, 104, 97, 107, 101]⟩
/-- client hs -/
abbrev lClientHs : ByteArray := ⟨#[99, 108, 105, 101, 110, 116, 32, 104, 115]⟩
/-- server hs -/
abbrev lServerHs : ByteArray := ⟨#[115, 101, 114, 118, 101, 114, 32, 104, 115]⟩
/-- main -/
abbrev lMain : ByteArray := ⟨#[109, 97, 105, 110]⟩
/-- client app -/
abbrev lClientApp : ByteArray := ⟨#[99, 108, 105, 101, 110, 116, 32, 97, 112, 112]⟩
/-- server app -/
abbrev lServerApp : ByteArray := ⟨#[115, 101, 114, 118, 101, 114, 32, 97, 112, 112]⟩
/-- resume -/
abbrev lResume : ByteArray := ⟨#[114, 101, 115, 117, 109, 101]⟩
/-- finished -/
abbrev lFinished : ByteArray := ⟨#[102, 105, 110, 105, 115, 104, 101, 100]⟩
/-- binder -/
abbrev lBinder : ByteArray := ⟨#[98, 105, 110, 100, 101, 114]⟩
/-- none -/
abbrev lNone : ByteArray := ⟨#[110, 111, 110, 101]⟩
/-- server proof -/
abbrev lProof : ByteArray := ⟨#[115, 101, 114, 118, 101, 114, 32, 112, 114, 111, 111, 102]⟩

/-- A constant text's row: what follows its last cell is marked. -/
theorem Rd.litM (w : World) (zs : List Int) (n : Nat) (hn : n = zs.length) (h : zs.length ≤ 1000) : Rd .u8 (w.alloc (.cells (cs .u8 zs).toArray 5 ((cs .u8 zs).toArray.size, (cs .u8 zs).toArray.size + 1))) (.slice (some ⟨w.heap.size, 0, none⟩) n n) zs := by
  subst hn
  refine ⟨some ⟨w.heap.size, 0, none⟩, zs.length, rfl, Nat.le_refl _, by unfold maxLen; omega, (fun h => by cases h), fun a ha j hj => ?_⟩
  cases ha
  rw [Addr.add_lit, Nat.zero_add, World.cell?_alloc_mark]
  simpa using cs_get .u8 zs j hj
theorem conv_const (w : World) (C : Array Value) (n c : Nat) : (convert 22 22 (.slice (some ⟨w.heap.size, 0, none⟩) n c)).run Try.prog (w.alloc (.cells C 5)) = .ok (.slice (some ⟨w.heap.size, 0, none⟩) n c) (w.alloc (.cells C 5 (C.size, C.size + 1))) :=
  Lib.run_convert_bytes_const (P := Try.prog) w 22 5 C n c Try.underlying22 Try.underlying5

variable {w0 w : World} {tb mb : Nat} {N : List Nd} {rs : List (Value × List Int)}

set_option maxRecDepth 20000 in
set_option maxHeartbeats 1600000 in
theorem St.shakenTrafficS (h : St w0 w tb mb N rs) (s tr : Int) (hroom : N.length < 65500) :
    Calls Try.prog 19 #[.pointer (some ⟨tb, 0, none⟩), .int .i64 s, .int .i64 tr] w fun e w' => e = .returned (.tuple #[.int .i64 (atN N lClientHs s tr).1, .int .i64 (atN (atN N lClientHs s tr).2 lServerHs s tr).1]) ∧ St w0 w' tb mb (atN (atN N lClientHs s tr).2 lServerHs s tr).2 rs := by
  have c1 := h.bothS lClientHs lServerHs s tr (by decide) (by decide) (by omega)
  clear h hroom
  go_enter Try.func19, Try.ntmps19
  go_wp2_with fail
  refine c1.mono ?_
  rintro e w1 ⟨rfl, h1⟩
  go_wp2_with fail
  go_ret2
  exact ⟨rfl, h1⟩
set_option maxRecDepth 20000 in
set_option maxHeartbeats 1600000 in
theorem St.mainTrafficS (h : St w0 w tb mb N rs) (s tr : Int) (hroom : N.length < 65500) :
    Calls Try.prog 21 #[.pointer (some ⟨tb, 0, none⟩), .int .i64 s, .int .i64 tr] w fun e w' => e = .returned (.tuple #[.int .i64 (atN N lClientApp s tr).1, .int .i64 (atN (atN N lClientApp s tr).2 lServerApp s tr).1]) ∧ St w0 w' tb mb (atN (atN N lClientApp s tr).2 lServerApp s tr).2 rs := by
  have c1 := h.bothS lClientApp lServerApp s tr (by decide) (by decide) (by omega)
  clear h hroom
  go_enter Try.func21, Try.ntmps21
  go_wp2_with fail
  refine c1.mono ?_
  rintro e w1 ⟨rfl, h1⟩
  go_wp2_with fail
  go_ret2
  exact ⟨rfl, h1⟩
set_option maxRecDepth 20000 in
set_option maxHeartbeats 1600000 in
theorem St.earlyTrafficS (h : St w0 w tb mb N rs) (s tr : Int) (hroom : N.length < 65500) :
    Calls Try.prog 27 #[.pointer (some ⟨tb, 0, none⟩), .int .i64 s, .int .i64 tr] w fun e w' => e = .returned (.int .i64 (atN N lClientEarly s tr).1) ∧ St w0 w' tb mb (atN N lClientEarly s tr).2 rs := by
  have c1 := h.atS lClientEarly s tr (by decide) (by omega)
  clear h hroom
  go_enter Try.func27, Try.ntmps27
  go_wp2_with fail
  refine c1.mono ?_
  rintro e w1 ⟨rfl, h1⟩
  go_wp2_with fail
  go_ret
  exact ⟨rfl, h1⟩
set_option maxRecDepth 20000 in
set_option maxHeartbeats 1600000 in
theorem St.resumeS (h : St w0 w tb mb N rs) (s tr : Int) (hroom : N.length < 65500) :
    Calls Try.prog 28 #[.pointer (some ⟨tb, 0, none⟩), .int .i64 s, .int .i64 tr] w fun e w' => e = .returned (.int .i64 (atN N lResume s tr).1) ∧ St w0 w' tb mb (atN N lResume s tr).2 rs := by
  have c1 := h.atS lResume s tr (by decide) (by omega)
  clear h hroom
  go_enter Try.func28, Try.ntmps28
  go_wp2_with fail
  refine c1.mono ?_
  rintro e w1 ⟨rfl, h1⟩
  go_wp2_with fail
  go_ret
  exact ⟨rfl, h1⟩
set_option maxRecDepth 20000 in
set_option maxHeartbeats 1600000 in
theorem St.finishedS (h : St w0 w tb mb N rs) (s tr : Int) (hroom : N.length < 65500) :
    Calls Try.prog 22 #[.pointer (some ⟨tb, 0, none⟩), .int .i64 s, .int .i64 tr] w fun e w' => e = .returned (.int .i64 (macN N lFinished s tr).1) ∧ St w0 w' tb mb (macN N lFinished s tr).2 rs := by
  have c1 := h.macS lFinished s tr (by decide) (by omega)
  clear h hroom
  go_enter Try.func22, Try.ntmps22
  go_wp2_with fail
  refine c1.mono ?_
  rintro e w1 ⟨rfl, h1⟩
  go_wp2_with fail
  go_ret
  exact ⟨rfl, h1⟩
set_option maxRecDepth 20000 in
set_option maxHeartbeats 1600000 in
theorem St.binderS (h : St w0 w tb mb N rs) (s tr : Int) (hroom : N.length < 65500) :
    Calls Try.prog 23 #[.pointer (some ⟨tb, 0, none⟩), .int .i64 s, .int .i64 tr] w fun e w' => e = .returned (.int .i64 (macN N lBinder s tr).1) ∧ St w0 w' tb mb (macN N lBinder s tr).2 rs := by
  have c1 := h.macS lBinder s tr (by decide) (by omega)
  clear h hroom
  go_enter Try.func23, Try.ntmps23
  go_wp2_with fail
  refine c1.mono ?_
  rintro e w1 ⟨rfl, h1⟩
  go_wp2_with fail
  go_ret
  exact ⟨rfl, h1⟩
set_option maxRecDepth 20000 in
set_option maxHeartbeats 1600000 in
theorem St.mainS (h : St w0 w tb mb N rs) (s : Int) (hroom : N.length < 65500) :
    Calls Try.prog 20 #[.pointer (some ⟨tb, 0, none⟩), .int .i64 s] w fun e w' => e = .returned (.int .i64 (deriveN N s lMain 0).1) ∧ St w0 w' tb mb (deriveN N s lMain 0).2 rs := by
  have c1 := h.ofS lMain s (by decide) (by omega)
  clear h hroom
  go_enter Try.func20, Try.ntmps20
  go_wp2_with fail
  refine c1.mono ?_
  rintro e w1 ⟨rfl, h1⟩
  go_wp2_with fail
  go_ret
  exact ⟨rfl, h1⟩
set_option maxRecDepth 20000 in
set_option maxHeartbeats 1600000 in
theorem St.firstS (h : St w0 w tb mb N rs) {vb : Value} {zb : List Int} (hb : Rd .u8 w vb zb) (hl : zb.length ≤ 2048) (hroom : N.length < 65500) {T D E : Int × List Nd} (hT : T = textN N (bstr zb)) (hD : D = deriveN T.2 T.1 lClientIn 0) (hE : E = deriveN D.2 T.1 lServerIn 0) :
    Calls Try.prog 16 #[.pointer (some ⟨tb, 0, none⟩), vb] w fun e w' => e = .returned (.tuple #[.int .i64 D.1, .int .i64 E.1]) ∧ St w0 w' tb mb E.2 rs := by
  have c1 := h.text hb hl (by omega)
  have n1 := textN_len N (bstr zb)
  rw [← hT] at c1 n1
  have n2 := derive_len T.2 T.1 lClientIn 0
  rw [← hD] at n2
  have HN : Hid (T.2.length < 65534 ∧ D.2.length < 65534) := Lib.hid (by omega)
  have HD := Lib.hid hD
  have HE := Lib.hid hE
  obtain ⟨ao, cap, rfl, _⟩ := hb
  clear h hl hroom n1 n2 hT hD hE
  go_enter Try.func16, Try.ntmps16
  go_wp2_with fail
  refine c1.mono ?_
  rintro e w1 ⟨rfl, h1⟩
  have c2 := h1.ofS lClientIn T.1 (by decide) HN.out.1
  rw [← HD.out] at c2
  clear c1
  go_wp2_with fail
  refine c2.mono ?_
  rintro e w2 ⟨rfl, h2⟩
  have c3 := h2.ofS lServerIn T.1 (by decide) HN.out.2
  rw [← HE.out] at c3
  clear c2
  go_wp2_with fail
  refine c3.mono ?_
  rintro e w3 ⟨rfl, h3⟩
  go_wp2_with fail
  go_ret2
  exact ⟨rfl, h3⟩
/-- The early secret. -/
def earlyN (N : List Nd) (t : Int) : Int × List Nd := if t = 0 then deriveN (textN N lNone).2 (textN N lNone).1 lEarly 0 else deriveN N t lEarly 0
theorem earlyN_len (N : List Nd) (t : Int) : (earlyN N t).2.length ≤ N.length + 4 := by
  unfold earlyN
  have h1 := textN_len N lNone
  split
  · have := derive_len (textN N lNone).2 (textN N lNone).1 lEarly 0; omega
  · have := derive_len N t lEarly 0; omega
set_option maxRecDepth 20000 in
set_option maxHeartbeats 1600000 in
theorem St.earlyS (h : St w0 w tb mb N rs) (t : Int) (hroom : N.length < 65500) :
    Calls Try.prog 17 #[.pointer (some ⟨tb, 0, none⟩), .int .i64 t] w fun e w' => e = .returned (.int .i64 (earlyN N t).1) ∧ St w0 w' tb mb (earlyN N t).2 rs := by
  unfold earlyN
  by_cases ht : t = 0
  · subst ht
    rw [if_pos rfl]
    have c1 := (h.keep (below_alloc w (.cells (cs .u8 [110, 111, 110, 101]).toArray 5 ((cs .u8 [110, 111, 110, 101]).toArray.size, (cs .u8 [110, 111, 110, 101]).toArray.size + 1)))).text (Rd.litM w [110, 111, 110, 101] 4 rfl (by simp)) (by simp) (by omega)
    have hcv := conv_const w
    rw [show bstr [110, 111, 110, 101] = lNone from rfl] at c1
    have n1 := textN_len N lNone
    generalize textN N lNone = T at *
    have HN : Hid (T.2.length < 65534) := Lib.hid (by omega)
    clear h hroom n1
    go_enter Try.func17, Try.ntmps17
    go_wp2_with fail
    refine c1.mono ?_
    rintro e w1 ⟨rfl, h1⟩
    have c2 := h1.ofS lEarly T.1 (by decide) HN.out
    clear c1
    go_wp2_with fail
    refine c2.mono ?_
    rintro e w2 ⟨rfl, h2⟩
    go_wp2_with fail
    go_ret
    exact ⟨rfl, h2⟩
  · rw [if_neg ht]
    have e0 : (t == 0) = false := beq_eq_false_iff_ne.2 ht
    have c2 := h.ofS lEarly t (by decide) (by omega)
    clear h hroom ht
    go_enter Try.func17, Try.ntmps17
    go_wp2_with fail
    refine c2.mono ?_
    rintro e w2 ⟨rfl, h2⟩
    go_wp2_with fail
    go_ret
    exact ⟨rfl, h2⟩
set_option maxRecDepth 20000 in
set_option maxHeartbeats 1600000 in
theorem St.shakenS (h : St w0 w tb mb N rs) (x y : Int) (hroom : N.length < 65500) {T D : Int × List Nd} (hT : T = makeN N 3 [x, y]) (hD : D = deriveN T.2 T.1 lHandshake 0) :
    Calls Try.prog 18 #[.pointer (some ⟨tb, 0, none⟩), .int .i64 x, .int .i64 y] w fun e w' => e = .returned (.int .i64 D.1) ∧ St w0 w' tb mb D.2 rs := by
  have c1 := (h.keep (below_alloc w (.cells (cs .i64 [x, y]).toArray 26))).makes 3 (Rd.lit .i64 26 w [x, y] (by simp)) (by simp) (by omega)
  have n1 := (makeN_len N 3 [x, y]).2
  rw [← hT] at c1 n1
  have HN : Hid (T.2.length < 65534) := Lib.hid (by omega)
  have HD := Lib.hid hD
  clear h hroom n1 hT hD
  go_enter Try.func18, Try.ntmps18
  go_wp2_with fail
  refine c1.mono ?_
  rintro e w1 ⟨rfl, h1⟩
  have c2 := h1.ofS lHandshake T.1 (by decide) HN.out
  rw [← HD.out] at c2
  clear c1
  go_wp2_with fail
  refine c2.mono ?_
  rintro e w2 ⟨rfl, h2⟩
  go_wp2_with fail
  go_ret
  exact ⟨rfl, h2⟩
set_option maxRecDepth 20000 in
set_option maxHeartbeats 1600000 in
theorem St.signedS (h : St w0 w tb mb N rs) (tr : Int) (hroom : N.length < 65500) {T D : Int × List Nd} (hT : T = textN N lProof) (hD : D = makeN T.2 3 [T.1, tr]) :
    Calls Try.prog 24 #[.pointer (some ⟨tb, 0, none⟩), .int .i64 tr] w fun e w' => e = .returned (.int .i64 D.1) ∧ St w0 w' tb mb D.2 rs := by
  have c1 := (h.keep (below_alloc w (.cells (cs .u8 [115, 101, 114, 118, 101, 114, 32, 112, 114, 111, 111, 102]).toArray 5 ((cs .u8 [115, 101, 114, 118, 101, 114, 32, 112, 114, 111, 111, 102]).toArray.size, (cs .u8 [115, 101, 114, 118, 101, 114, 32, 112, 114, 111, 111, 102]).toArray.size + 1)))).text (Rd.litM w [115, 101, 114, 118, 101, 114, 32, 112, 114, 111, 111, 102] 12 rfl (by simp)) (by simp) (by omega)
  have hcv := conv_const w
  rw [show bstr [115, 101, 114, 118, 101, 114, 32, 112, 114, 111, 111, 102] = lProof from rfl, ← hT] at c1
  have n1 := textN_len N lProof
  rw [← hT] at n1
  have HN : Hid (T.2.length < 65536) := Lib.hid (by omega)
  have HD := Lib.hid hD
  clear h hroom n1 hT hD
  go_enter Try.func24, Try.ntmps24
  go_wp2_with fail
  refine c1.mono ?_
  rintro e w1 ⟨rfl, h1⟩
  have c2 := (h1.keep (below_alloc w1 (.cells (cs .i64 [T.1, tr]).toArray 26))).makes 3 (Rd.lit .i64 26 w1 [T.1, tr] (by simp)) (by simp) HN.out
  rw [← HD.out] at c2
  clear c1
  go_wp2_with fail
  refine c2.mono ?_
  rintro e w2 ⟨rfl, h2⟩
  go_wp2_with fail
  go_ret
  exact ⟨rfl, h2⟩
#print axioms St.signedS
end Go.Proofs.Ytipgidcpocgojaa
