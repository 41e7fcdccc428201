/- Both streams side by side, call by call. -/
import Derived.Test.YtfgjlfcadpmkhaaSTwo
import Derived.Test.YtfgjlfcadpmkhaaRPut
namespace Go.Proofs.Ytfgjlfcadpmkhaa
open Go Go.RowKit

theorem own_keepB {w w' : World} {base : Nat} {e : TypeId} {size : Nat} {v : Value} {n : Nat} {xs : List Value} (h : w.ownsRow base e size v n xs) (hb : ∀ g, v.ownBlock = some g → g < w.heap.size → w'.heap[g]? = w.heap[g]?) : w'.ownsRow base e size v n xs := by
  obtain ⟨h1, h2⟩ := h
  refine ⟨h1, ?_⟩
  rcases h2 with h2 | ⟨g, cap, cur, rfl, hg, hh, r⟩
  · exact .inl h2
  · exact .inr ⟨g, cap, cur, rfl, hg, by rw [hb g rfl (Array.getElem?_eq_some_iff.1 hh).1]; exact hh, r⟩
theorem Rs.chg {w w' : World} {R base t : Nat} {av bv : Value} {hl : List (Int × Int)} {S : List Nat} (h : Rs w R base t av bv hl) (hc : Chg S w w') (hS : ∀ k ∈ blksR R av bv, k ∉ S) : Rs w' R base t av bv hl :=
  ⟨by rw [hc.block R (blkLtR h.box) (hS R (by simp [blksR]))]; exact h.box, own_keepB h.at' fun g hg hl => hc.block g hl (hS g (by simp [blksR, hg])), own_keepB h.byte fun g hg hl => hc.block g hl (hS g (by simp [blksR, hg])), h.byt, h.low⟩
theorem Rs.blk_lt {w : World} {R base t : Nat} {av bv : Value} {hl : List (Int × Int)} (h : Rs w R base t av bv hl) : ∀ g ∈ blksR R av bv, g < w.heap.size := by
  intro g hg
  rcases List.mem_cons.1 hg with rfl | hg
  · exact blkLtR h.box
  · rcases List.mem_append.1 hg with hg | hg
    · exact (h.at'.lt g (by simpa using hg)).2
    · exact (h.byte.lt g (by simpa using hg)).2
theorem Rs.blk_ge {w : World} {R base t : Nat} {av bv : Value} {hl : List (Int × Int)} (h : Rs w R base t av bv hl) : ∀ g ∈ blksR R av bv, g = R ∨ base ≤ g := by
  intro g hg
  rcases List.mem_cons.1 hg with rfl | hg
  · exact .inl rfl
  · rcases List.mem_append.1 hg with hg | hg
    · exact .inr (h.at'.lt g (by simpa using hg)).1
    · exact .inr (h.byte.lt g (by simpa using hg)).1
theorem row_cells {w : World} {base : Nat} {e : TypeId} {size : Nat} {v : Value} {n : Nat} {xs : List Value} (h : w.ownsRow base e size v n xs) {g : Nat} (hg : v.ownBlock = some g) : ∃ cs ty fr, w.heap[g]? = some (.cells cs ty fr) := by
  rcases h.2 with ⟨rfl, _⟩ | ⟨g', cap, cur, rfl, _, hh, _⟩
  · cases hg
  · cases hg; exact ⟨_, _, _, hh⟩
/-- The map of pieces is none of the document's blocks. -/
theorem map_apart {w : World} {R base t mb n : Nat} {av bv : Value} {hl : List (Int × Int)} {f : Int → Option Value} (h : Rs w R base t av bv hl) (hm : MapS w mb n f) : mb ∉ blksR R av bv := by
  obtain ⟨D, ⟨es, clock, hb, _⟩, _⟩ := hm
  have key : ¬ ∃ cs ty fr, w.heap[mb]? = some (.cells cs ty fr) := by
    rintro ⟨cs, ty, fr, h2⟩
    rw [hb] at h2
    cases h2
  intro hk
  rcases List.mem_cons.1 hk with rfl | hk
  · exact key ⟨_, _, _, h.box⟩
  · rcases List.mem_append.1 hk with hk | hk
    · exact key (row_cells h.at' (by simpa using hk))
    · exact key (row_cells h.byte (by simpa using hk))
theorem Rd.fa_new {w : World} {v : Value} {l : List Int} (h : Rd w v l) {g : Nat} (hg : w.heap.size ≤ g) : Fa g v l := fun a n cap e hz => by
  have := h.lt_of e hz
  omega
theorem Rd.chgS {S : List Nat} {w w' : World} {v : Value} {l : List Int} (h : Rd w v l) (hc : Chg S w w') (hf : ∀ g ∈ S, Fa g v l) : Rd w' v l := by
  obtain ⟨ao, cap, hv, h1, h2, h3, h4, hcell⟩ := h
  refine ⟨ao, cap, hv, h1, h2, h3, h4, fun a ha j hj => ?_⟩
  have hz : l ≠ [] := fun e => by rw [e] at hj; simp at hj
  have hx := hcell a ha j hj
  refine hc.cell hx fun hm => ?_
  have e2 : (a.add j).block = a.block := by unfold Addr.add; split <;> rfl
  rw [e2] at hm
  exact hf _ hm a l.length cap (by rw [hv, ha]) hz rfl
/-- The stream beside blocks that have changed, and new ones. -/
theorem St.move {gs gs' : List Nat} {w w' : World} {B t N : Nat} {mo : Option Nat} {E : Int → Option (List Int)} (h : St gs w B mo t N E) (hc : Chg gs w w') (hB : B ∉ gs) (hm : ∀ mb n f, mo = some mb → MapS w mb n f → mb ∉ gs) (hg : ∀ g ∈ gs', g ∈ gs ∨ w.heap.size ≤ g) (hl : ∀ g ∈ gs', g < w'.heap.size) : St gs' w' B mo t N E := by
  refine ⟨by rw [hc.block B h.lt hB]; exact h.box, ?_, h.pcs, h.tb, hl⟩
  rcases h.mp with h1 | ⟨mb, f, h1, h2, h3⟩
  · exact .inl h1
  · refine .inr ⟨mb, f, h1, h2.keep (hc.block mb h2.lt (hm mb _ _ h1 h2)), h3.none, fun k v l hf hE => ?_, fun k v l hf hE g hgg => ?_⟩
    · have hr := h3.rd k v l hf hE
      exact ⟨hr.1.chgS hc (h3.off k v l hf hE), hr.2⟩
    · rcases hg g hgg with h4 | h4
      · exact h3.off k v l hf hE g h4
      · exact (h3.rd k v l hf hE).1.fa_new h4
theorem St.mono {gs : List Nat} {w : World} {B t N N' : Nat} {mo : Option Nat} {E : Int → Option (List Int)} (h : St gs w B mo t N E) (hn : N ≤ N') : St gs w B mo t N' E := by
  refine ⟨h.box, ?_, h.pcs, h.tb, h.gl⟩
  rcases h.mp with h1 | ⟨mb, f, h1, h2, h3⟩
  · exact .inl h1
  · exact .inr ⟨mb, f, h1, h2.mono hn, h3⟩
/-- Both streams. -/
structure Du (w0 : World) (B R base k t : Nat) (mo : Option Nat) (E : Int → Option (List Int)) (av bv : Value) (hl : List (Int × Int)) (w : World) : Prop where
  st : St (blksR R av bv) w B mo t k E
  rs : Rs w R base t av bv hl
  two : Two t E hl
  mb : ∀ mb, mo = some mb → base ≤ mb
  len : hl.length ≤ 60 * k
  bel : Below w0.heap.size w0 w
  ord : w0.heap.size ≤ B ∧ B < R ∧ R < base ∧ base ≤ w.heap.size
  tb : t ≤ 2004 * k
def Duo (w0 : World) (B R base k t : Nat) (w : World) : Prop := ∃ mo E av bv hl, Du w0 B R base k t mo E av bv hl w
section
variable {w0 w : World} {B R base k t : Nat} {mo : Option Nat} {E : Int → Option (List Int)} {av bv : Value} {hl : List (Int × Int)}
theorem Du.below {w' : World} (h : Du w0 B R base k t mo E av bv hl w) (hb : Below w.heap.size w w') : Du w0 B R base k t mo E av bv hl w' :=
  ⟨h.st.below hb, h.rs.below hb, h.two, h.mb, h.len, h.bel.trans (hb.mono h.bel.size), ⟨h.ord.1, h.ord.2.1, h.ord.2.2.1, Nat.le_trans h.ord.2.2.2 hb.size⟩, h.tb⟩
theorem Du.B_not (h : Du w0 B R base k t mo E av bv hl w) : B ∉ blksR R av bv := fun hm => by
  obtain ⟨_, h1, h2, _⟩ := h.ord
  rcases h.rs.blk_ge B hm with h3 | h3 <;> omega
/-- A piece is put to both. -/
theorem duo_put {v vi : Value} {zs : List Int} (at' : Int) (h : Du w0 B R base k t mo E av bv hl w) (hk : k ≤ 1000) (hr : Rd w v zs) (hp : Plain v) (hri : Rd w0 vi zs) (hz : zs.length ≤ 60) :
    Calls Try.prog 7 #[.pointer (some ⟨B, 0, none⟩), .int .i64 at', v] w fun e w1 => ∃ c, e = .returned (.int .i64 c) ∧ Below w0.heap.size w0 w1 ∧
      Calls Try.prog 8 #[.pointer (some ⟨R, 0, none⟩), .int .i64 at', vi] w1 fun e2 w2 => e2 = .returned (.int .i64 c) ∧ Duo w0 B R base (k + 1) t w2 := by
  obtain ⟨o1, o2, o3, o4⟩ := h.ord
  have htb := h.tb
  have hlen := h.len
  refine (put_any at' (by omega) h.st hr hp (by omega)).mono fun e w1 hpost => ?_
  rcases hpost with ⟨c, rfl, hc, hb⟩ | ⟨rfl, h0, h4, hne, L, hnd, hL, hal, hj⟩
  · have h1 := h.below hb
    refine ⟨c, rfl, h1.bel, (rput_any at' h1.rs (by omega) (by omega) h1.bel hri (by omega) (by omega) h1.ord.2.2.2).mono fun e2 w2 hpost => ?_⟩
    rcases hpost with ⟨c', rfl, hc', rfl⟩ | ⟨rfl, g0, gf, gn, av', bv', hl', hrs', had, hch, hnA, hnB⟩
    · obtain rfl := put_codes h1.two hc hc'
      exact ⟨rfl, mo, E, av, bv, hl, h1.st.mono (by omega), h1.rs, h1.two, h1.mb, by omega, h1.bel, h1.ord, by omega⟩
    · obtain ⟨rfl, hzn⟩ := put_ok h1.two hc g0 gf gn
      have hnew : ∀ g ∈ blksR R av' bv', g ∈ blksR R av bv ∨ w1.heap.size ≤ g := fun g hg => by
        rcases List.mem_cons.1 hg with rfl | hg
        · exact .inl (by simp [blksR])
        · rcases List.mem_append.1 hg with hg | hg
          · rcases hnA g (by simpa using hg) with h5 | h5
            · exact .inl (by simp [blksR, h5])
            · exact .inr h5
          · rcases hnB g (by simpa using hg) with h5 | h5
            · exact .inl (by simp [blksR, h5])
            · exact .inr h5
      refine ⟨rfl, mo, E, av', bv', hl', (h1.st.move hch h1.B_not (fun mb n f _ hm => map_apart h1.rs hm) hnew hrs'.blk_lt).mono (by omega), hrs', two_none h1.two had hzn, h1.mb, ?_, hch.below h1.bel (fun g hg => ?_), ⟨o1, o2, o3, Nat.le_trans h1.ord.2.2.2 hch.size⟩, by omega⟩
      · have := had.2; omega
      · rcases h1.rs.blk_ge g hg with h5 | h5 <;> omega
  · obtain ⟨mb, hst, hmb⟩ := hj.out
    have hrs1 : Rs w1 R base t av bv hl ∧ Below w0.heap.size w0 w1 ∧ base ≤ mb := by
      rcases hmb with ⟨_, hsz, hch⟩ | ⟨rfl, hch⟩
      · refine ⟨h.rs.chg hch fun g hg hm => ?_, hch.below h.bel (fun g hg => by rw [List.mem_singleton.1 hg]; exact o1), by omega⟩
        rw [List.mem_singleton.1 hm] at hg
        exact h.B_not hg
      · have hmb := h.mb mb rfl
        refine ⟨h.rs.chg hch fun g hg hm => ?_, hch.below h.bel (fun g hg => by rw [List.mem_singleton.1 hg]; omega), hmb⟩
        rw [List.mem_singleton.1 hm] at hg
        rcases h.st.mp with ⟨h5, _⟩ | ⟨mb', f, h5, h6, _⟩
        · cases h5
        · cases h5
          exact map_apart h.rs h6 hg
    obtain ⟨hrs1, hbel1, hbm⟩ := hrs1
    have hsz1 : base ≤ w1.heap.size := by
      rcases hmb with ⟨_, _, hch⟩ | ⟨_, hch⟩
      · exact Nat.le_trans o4 hch.size
      · exact Nat.le_trans o4 hch.size
    refine ⟨0, rfl, hbel1, (rput_any at' hrs1 (by omega) (by omega) hbel1 hri (by omega) (by omega) hsz1).mono fun e2 w2 hpost => ?_⟩
    rcases hpost with ⟨c', rfl, hc', rfl⟩ | ⟨rfl, g0, gf, gn, av', bv', hl', hrs', had, hch, hnA, hnB⟩
    · exact (put_no h.two hc' h0 h4 hal).elim
    · have hnew : ∀ g ∈ blksR R av' bv', g ∈ blksR R av bv ∨ w1.heap.size ≤ g := fun g hg => by
        rcases List.mem_cons.1 hg with rfl | hg
        · exact .inl (by simp [blksR])
        · rcases List.mem_append.1 hg with hg | hg
          · rcases hnA g (by simpa using hg) with h5 | h5
            · exact .inl (by simp [blksR, h5])
            · exact .inr h5
          · rcases hnB g (by simpa using hg) with h5 | h5
            · exact .inl (by simp [blksR, h5])
            · exact .inr h5
      refine ⟨rfl, some mb, _, av', bv', hl', hst.move hch h.B_not (fun mb n f _ hm => map_apart hrs1 hm) hnew hrs'.blk_lt, hrs', two_put h.two hr.byt had gn hL hst.pcs, fun b hb => by cases hb; exact hbm, ?_, hch.below hbel1 (fun g hg => ?_), ⟨o1, o2, o3, Nat.le_trans hsz1 hch.size⟩, by omega⟩
      · have := had.2; omega
      · rcases hrs1.blk_ge g hg with h5 | h5 <;> omega
theorem Rd.offR {w : World} {v a b : Value} {zs : List Int} {g : Nat} {x : Int} {ty : TypeId} {fr : Nat × Nat} (h : Rd w v zs) (hg : w.heap[g]? = some (.cells #[.int .i64 x, a, b] ty fr)) (ha : ∀ y, a ≠ .int .u8 y) (hb : ∀ y, b ≠ .int .u8 y) : Fa g v zs := by
  obtain ⟨ao, cap, hv, _, _, _, _, hc⟩ := h
  intro a' n c e hz hbk
  rw [e] at hv
  cases hv
  have h0 := hc a' rfl 0 (List.length_pos_iff.2 hz)
  have e2 : (a'.add 0).block = a'.block := by unfold Addr.add; split <;> rfl
  unfold World.cell? at h0
  rw [e2, hbk, hg] at h0
  simp only at h0
  split at h0
  · cases h0
  · have : (a'.add 0).off = 0 ∨ (a'.add 0).off = 1 ∨ (a'.add 0).off = 2 ∨ 3 ≤ (a'.add 0).off := by omega
    rcases this with h1 | h1 | h1 | h1
    · rw [h1] at h0; simp at h0
    · rw [h1] at h0; simp at h0; exact ha _ h0
    · rw [h1] at h0; simp at h0; exact hb _ h0
    · rw [Array.getElem?_eq_none (by simpa using h1)] at h0; cases h0
/-- The next message is taken from both. -/
theorem duo_next (h : Du w0 B R base k t mo E av bv hl w) (hk : k ≤ 1000) :
    Calls Try.prog 4 #[.pointer (some ⟨B, 0, none⟩)] w fun e w1 => ∃ v c xs, e = .returned (.tuple #[v, .int .i64 c]) ∧ Rd w1 v xs ∧
      Calls Try.prog 5 #[.pointer (some ⟨R, 0, none⟩)] w1 fun e2 w2 => ∃ v2 t', e2 = .returned (.tuple #[v2, .int .i64 c]) ∧ Rd w2 v xs ∧ Rd w2 v2 xs ∧ Duo w0 B R base (k + 1) t' w2 := by
  obtain ⟨o1, o2, o3, o4⟩ := h.ord
  have htb := h.tb
  have hlen := h.len
  have hbyt := h.rs.byt
  refine (next_any (by omega) h.st (by omega)).mono fun e w1 hpost => ?_
  rcases hpost with ⟨hne, rfl, hb⟩ | ⟨heq, v, mb, rfl, rfl, hrd, hpl, hst, hch⟩
  · have h1 := h.below hb
    refine ⟨_, _, [], rfl, Rd.nil w1, (rnext_any h1.rs (by omega) (by omega) h1.ord.2.2.2).mono fun e2 w2 hpost => ?_⟩
    rcases hpost with ⟨c', rfl, hc', hb2⟩ | ⟨n, v2, av', bv', g4, g2, gn, gl, rfl, hown, hrs', hch, hA, hB⟩
    · obtain ⟨rfl, _⟩ := two_no h1.two hbyt hc'
      have h2 := h1.below hb2
      exact ⟨_, t, rfl, Rd.nil w2, Rd.nil w2, mo, E, av, bv, hl, h2.st.mono (by omega), h2.rs, h2.two, h2.mb, by omega, h2.bel, h2.ord, by omega⟩
    · exact absurd (two_yes h1.two hbyt g4 g2 gn gl).1 hne
  · have hmb := h.mb mb rfl
    have hbm : mb ∉ blksR R av bv := by
      rcases h.st.mp with ⟨h5, _⟩ | ⟨mb', f, h5, h6, _⟩
      · cases h5
      · cases h5
        exact map_apart h.rs h6
    have hrs1 : Rs w1 R base t av bv hl := h.rs.chg hch fun g hg hm => by
      rcases List.mem_cons.1 hm with rfl | hm
      · exact h.B_not hg
      · rw [List.mem_singleton.1 hm] at hg; exact hbm hg
    have hbel1 : Below w0.heap.size w0 w1 := hch.below h.bel fun g hg => by
      rcases List.mem_cons.1 hg with rfl | hg
      · exact o1
      · rw [List.mem_singleton.1 hg]; omega
    have hsz1 : base ≤ w1.heap.size := Nat.le_trans o4 hch.size
    refine ⟨_, _, _, rfl, hrd, (rnext_any hrs1 (by omega) (by omega) hsz1).mono fun e2 w2 hpost => ?_⟩
    rcases hpost with ⟨c', rfl, hc', hb2⟩ | ⟨n, v2, av', bv', g4, g2, gn, gl, rfl, hown, hrs', hch2, hA, hB⟩
    · exact absurd heq (by rw [(two_no h.two hbyt hc').1]; exact (two_no h.two hbyt hc').2)
    · obtain ⟨_, hn⟩ := two_yes h.two hbyt g4 g2 gn gl
      rw [hn] at hrd hst ⊢
      have hfr := two_front h.two n
      rw [hfr] at hown gl
      have hnl : n ≤ (frontB t E).length := by rw [List.length_take] at gl; omega
      have hnew : ∀ g ∈ blksR R av' bv', g ∈ blksR R av bv ∨ w1.heap.size ≤ g := fun g hg => by
        rcases List.mem_cons.1 hg with rfl | hg
        · exact .inl (by simp [blksR])
        · rcases List.mem_append.1 hg with hg | hg
          · exact .inr (hA g (by simpa using hg))
          · exact .inr (hB g (by simpa using hg))
      have hch3 : Chg (blksR R av bv) w1 w2 := ⟨hch2.os, hch2.tape, hch2.output, hch2.size, fun g hg hm => hch2.block g hg fun h5 => hm (by rw [List.mem_singleton.1 h5]; simp [blksR])⟩
      obtain ⟨aa, ac, ba, bc, e1, e2⟩ := hrs1.shapes
      have hoff : Fa R v ((frontB t E).take n) := hrd.offR hrs1.box (by rw [e1]; intro y hy; cases hy) (by rw [e2]; intro y hy; cases hy)
      have hbt := (two_front_byt h.two hbyt).take n
      have hv2 := Rd.of_own hown hbt
      refine ⟨v2, t + n, rfl, hrd.chgS hch2 (fun g hg => by rw [List.mem_singleton.1 hg]; exact hoff), hv2.1, some mb, _, av', bv', _, hst.move hch3 h.B_not (fun mb n f _ hm => map_apart hrs1 hm) hnew hrs'.blk_lt, hrs', two_next h.two hnl (by omega), fun b hb => by cases hb; exact hmb, ?_, hch2.below hbel1 (fun g hg => by rw [List.mem_singleton.1 hg]; omega), ⟨o1, o2, o3, Nat.le_trans hsz1 hch2.size⟩, by omega⟩
      have hkl : (keepP hl (t + n)).length ≤ hl.length := List.length_filter_le _ _
      omega
end
#print axioms duo_put
#print axioms duo_next
end Go.Proofs.Ytfgjlfcadpmkhaa
