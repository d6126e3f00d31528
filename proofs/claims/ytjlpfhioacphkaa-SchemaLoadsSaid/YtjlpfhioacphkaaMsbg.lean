/-
  Several texts in one: Iw Ix Iy Jv.
-/
import Derived.Test.YtjlpfhioacphkaaMsbb
import Derived.Test.YtjlpfhioacphkaaMsaj
import Derived.Test.YtjlpfhioacphkaaMsat
/-
  The reader of a book's writing: what stays but its own block; take.
-/
namespace Go.Proofs.Ytjlpfhioacphkaa
section
set_option linter.unusedSimpArgs false
set_option linter.unusedVariables false
open Go.RowKit

theorem but_refl (w : World) (g : Nat) : w.grownBy w (some g) := ⟨rfl, rfl, rfl, Nat.le_refl _, fun _ _ _ => rfl⟩
theorem but_trans {a b c : World} {g : Nat} (h : a.grownBy b (some g)) (k : b.grownBy c (some g)) : a.grownBy c (some g) :=
  ⟨k.os.trans h.os, k.tape.trans h.tape, k.output.trans h.output, Nat.le_trans h.size k.size, fun i hi hne => (k.block i (Nat.lt_of_lt_of_le hi h.size) hne).trans (h.block i hi hne)⟩
theorem but_below {a b : World} {g : Nat} (h : Below a.heap.size a b) : a.grownBy b (some g) := ⟨h.os, h.tape, h.output, h.size, fun i hi _ => h.block i hi⟩
theorem but_set (w : World) (g i : Nat) (u : Value) : w.grownBy (w.setCell ⟨g, i, none⟩ u) (some g) := by
  have h := (Below.refl 0 w).setCell (p := ⟨g, i, none⟩) (Nat.zero_le _) u
  refine ⟨h.os, h.tape, h.output, h.size, fun k _ hne => ?_⟩
  exact Below.heap_setCell _ _ _ _ (fun e => hne (by rw [e]))
theorem cell_but {a b : World} {g : Nat} (h : a.grownBy b (some g)) {p : Addr} {v : Value} (hp : a.cell? p = some v) (hne : p.block ≠ g) : b.cell? p = some v := by
  have hb := h.block p.block (cell_block hp) (by simpa using hne)
  unfold World.cell? at hp ⊢
  rw [hb]
  exact hp

theorem but_alloc (w : World) (g : Nat) (o : Obj) : w.grownBy (w.alloc o) (some g) := but_below ((Below.refl _ _).alloc (Nat.le_refl _) o)
theorem reads_but {w w' : World} {g B sz n : Nat} {A : Option Addr} {xs : List Value} (h : w.grownBy w' (some g)) (hr : Reads w B sz A n xs) (hB : B ≤ g) : Reads w' B sz A n xs := by
  refine ⟨hr.1, fun hn => ?_⟩
  obtain ⟨ad, e, hb, hc⟩ := hr.2 hn
  exact ⟨ad, e, hb, fun j u hj => cell_but h (hc j u hj) (by rw [block_of_add]; omega)⟩
/-- A reader's state: what is left, and whether something wasn't there. -/
def Rd (w : World) (g B : Nat) (r : List UInt8) (sh : Bool) : Prop := ∃ A m c, Blk w g 119 #[.slice A m c, .bool sh] ∧ Reads w B 1 A m (bL r) ∧ m ≤ c ∧ B ≤ g
theorem Rd.but {w w' : World} {g g' B : Nat} {r : List UInt8} {sh : Bool} (h : Rd w g B r sh) (hb : w.grownBy w' (some g')) (hne : g ≠ g') (hB : B ≤ g') : Rd w' g B r sh := by
  obtain ⟨A, m, c, h1, h2, h3, h4⟩ := h
  exact ⟨A, m, c, h1.grown hb (by simpa using hne), reads_but hb h2 hB, h3, h4⟩
def tk (r : List UInt8) (k : Nat) : List UInt8 := if r.length < k then List.replicate k 0 else r.take k
def dr (r : List UInt8) (k : Nat) : List UInt8 := if r.length < k then [] else r.drop k
theorem tk_len (r : List UInt8) (k : Nat) : (tk r k).length = k := by
  unfold tk; split
  · simp
  · rw [List.length_take]; omega
def RetTk12 (w : World) (g B : Nat) (r : List UInt8) (sh : Bool) (k : Nat) (e : Ending) (w' : World) : Prop :=
  ∃ A' c', e = .returned (.slice A' k c') ∧ k ≤ c' ∧ Reads w' w'.heap.size 1 A' k (bL (tk r k)) ∧ Rd w' g B (dr r k) (sh || decide (r.length < k)) ∧ w.grownBy w' (some g) ∧ (0 < k → ∀ ad, A' = some ad → ad.block ≠ g)
theorem zeros_cells (k : Nat) : madeCells #[.int .u8 0] k = bV (List.replicate k 0) := by
  apply Array.ext
  · simp [bV_size, size_madeCells]
  · intro j h1 h2
    have hj : j < k := by simpa [size_madeCells] using h1
    have : (bV (List.replicate k 0))[j]? = some (.int .u8 ((0 : UInt8).toNat : Int)) := bV_at (by simp [hj])
    rw [Array.getElem?_eq_getElem h2] at this
    rw [Option.some.inj this]
    simp [madeCells, Nat.mod_one]

set_option maxHeartbeats 2000000 in
theorem take_any (g B : Nat) (r : List UInt8) (sh : Bool) (k : Nat) (w : World) (h : Rd w g B r sh) (hk : k ≤ 100000) :
    Calls Try.prog 67 #[.pointer (some ⟨g, 0, none⟩), .int .i64 k] w (RetTk12 w g B r sh k) := by
  obtain ⟨A, m, c, hX, hr, hmc, hB⟩ := h
  have hl := hr.bytes_len
  have c0 : w.cell? ⟨g, 0, none⟩ = some (.slice A m c) := hX.cell 0
  have c1 : w.cell? ⟨g, 1, none⟩ = some (.bool sh) := hX.cell 1
  have f0 := hX.frozen 0
  have f1 := hX.frozen 1
  have k0 : (0 : Int) ≤ (k : Int) := by omega
  by_cases hs : m < k
  · obtain ⟨i0, hi0, hz0, hs0, hy0⟩ := int_info8 Try.infoB
    have mk0 : ∀ W, (Instr.makeSlice 27 (.int .i64 (k : Int)) (.int .i64 (k : Int))).run Try.prog W = .ok (.slice (some ⟨W.heap.size, 0, none⟩) k k) (W.alloc (.cells (bV (List.replicate k 0)) 5)) := by
      intro W
      have h := run_make (P := Try.prog) W 27 5 i0 (.int .u8 0) Try.underlying27 hi0 hz0 .i64 .i64 k k (by omega) (by omega) (by rw [hy0]; omega) (by omega)
      rw [hs0] at h
      rw [← zeros_cells k]
      simp only [Int.toNat_natCast, Nat.mul_one] at h
      exact h
    clear hi0 hz0 hs0 hy0
    have hsI : (m : Int) < (k : Int) := by omega
    have h1 := but_set w g 1 (.bool true)
    have h2 := but_set (w.setCell ⟨g, 1, none⟩ (.bool true)) g 0 (.slice none 0 0)
    have h3 := but_alloc ((w.setCell ⟨g, 1, none⟩ (.bool true)).setCell ⟨g, 0, none⟩ (.slice none 0 0)) g (.cells (bV (List.replicate k 0)) 5)
    have HB := Lib.hid (but_trans (but_trans h1 h2) h3)
    have X3 := Lib.hid (((hX.set_ 1 (.bool true)).set_ 0 (.slice none 0 0)).alloc (.cells (bV (List.replicate k 0)) 5))
    have hgl := hX.lt
    have htk : tk r k = List.replicate k 0 := by unfold tk; rw [if_pos (by omega)]
    have hdr : dr r k = [] := by unfold dr; rw [if_pos (by omega)]
    have hd : decide (r.length < k) = true := by simp; omega
    have HT := Lib.hid (And.intro htk (And.intro hdr hd))
    have hRr : Hid (∀ W : World, Reads (W.alloc (.cells (bV (List.replicate k 0)) 5)) (W.alloc (.cells (bV (List.replicate k 0)) 5)).heap.size 1 (some ⟨W.heap.size, 0, none⟩) k (bL (List.replicate k 0))) := Lib.hid fun W => (reads_new W (bV (List.replicate k 0)) 5 (by rw [bV_toList]) (by rw [bL_len]; simp)).more (by simp)
    clear h1 h2 h3 htk hdr hd hr
    go_enter Try.func67, Try.ntmps67
    go_wp2
    go_ret
    exact ⟨_, _, rfl, Nat.le_refl _, by rw [HT.out.1]; simpa using hRr.out ((w.setCell ⟨g, 1, none⟩ (.bool true)).setCell ⟨g, 0, none⟩ (.slice none 0 0)), by rw [HT.out.2.1, HT.out.2.2, Bool.or_true]; exact ⟨none, 0, 0, X3.out, Reads.none_, Nat.le_refl _, hB⟩, HB.out, fun _ ad h => by
      cases h
      simp [World.setCell]
      omega⟩
  · have hs' : k ≤ m := by omega
    have hsI : (k : Int) ≤ (m : Int) := by omega
    obtain ⟨A1, hc1, hr1⟩ := cutb_hi (A := A) (n := m) (c := c) .i64 k (k : Int) rfl hs' hmc
    obtain ⟨A2, hc2, hr2⟩ := cutb_lo (A := A) (n := m) (c := c) .i64 k (k : Int) rfl hs' hmc
    have htk : tk r k = r.take k := by unfold tk; rw [if_neg (by omega)]
    have hdr : dr r k = r.drop k := by unfold dr; rw [if_neg (by omega)]
    have hd : decide (r.length < k) = false := by simp; omega
    have HT := Lib.hid (And.intro htk (And.intro hdr hd))
    have HR := Lib.hid (And.intro (hr1 w B r hr) (hr2 w B r hr))
    have HX := Lib.hid hX
    clear hr1 hr2 htk hdr hd
    go_enter Try.func67, Try.ntmps67
    go_wp2
    go_ret
    exact ⟨A1, c, rfl, by omega, by rw [HT.out.1]; exact (reads_but (but_set _ _ _ _) HR.out.1 hB).more (by have := HX.out.lt; simp [World.setCell]; omega), by rw [HT.out.2.1, HT.out.2.2, Bool.or_false]; exact ⟨A2, m - k, c - k, HX.out.set_ 0 _, reads_but (but_set _ _ _ _) HR.out.2 hB, by omega, hB⟩, but_set _ _ _ _, fun h0 ad h => by
      obtain ⟨ad', e1, h2, _⟩ := HR.out.1.2 h0
      rw [e1] at h
      cases h
      omega⟩
end
end Go.Proofs.Ytjlpfhioacphkaa
/-
  The reader of a book's writing: count, text, number.
-/
namespace Go.Proofs.Ytjlpfhioacphkaa
section
set_option linter.unusedSimpArgs false
set_option linter.unusedVariables false
open Go.RowKit

theorem but_far {w a : World} {g : Nat} (h : w.grownBy a (some g)) {p : Addr} (hp : w.heap.size ≤ p.block) (u : Value) : w.grownBy (a.setCell p u) (some g) := by
  have k := (Below.refl 0 a).setCell (p := p) (Nat.zero_le _) u
  exact ⟨k.os.trans h.os, k.tape.trans h.tape, k.output.trans h.output, Nat.le_trans h.size k.size, fun i hi hne => (Below.heap_setCell _ _ _ _ (by omega)).trans (h.block i hi hne)⟩
theorem Rd.far {a : World} {g B : Nat} {r : List UInt8} {sh : Bool} (h : Rd a g B r sh) {p : Addr} (hp : g < p.block) (u : Value) : Rd (a.setCell p u) g B r sh := by
  obtain ⟨A, m, c, h1, h2, h3, h4⟩ := h
  have hk : a.grownBy (a.setCell p u) (some p.block) := by
    have k := (Below.refl 0 a).setCell (p := p) (Nat.zero_le _) u
    exact ⟨k.os, k.tape, k.output, k.size, fun i hi hne => Below.heap_setCell _ _ _ _ (fun e => hne (by rw [e]))⟩
  exact ⟨A, m, c, h1.far (by omega) u, reads_but hk h2 (by omega), h3, h4⟩
/-- The entry with which bytes begin, as a reader takes it; what is left; whether something wasn't there. -/
theorem or_i6412 (U : Nat) (b : UInt8) (hU : U < 16777216) : bits .or .i64 (wrap64 ((U : Int) * 256)) (b.toNat : Int) = ((256 * U + b.toNat : Nat) : Int) := by
  have hb := b.toNat_lt
  rw [show wrap64 ((U : Int) * 256) = (U : Int) * 256 from by unfold wrap64; omega]
  show IntKind.i64.wrap ((BitVec.ofInt 64 ((U : Int) * 256) ||| BitVec.ofInt 64 (b.toNat : Int)).toNat : Int) = _
  have e1 : (BitVec.ofInt 64 ((U : Int) * 256)).toNat = 256 * U := by rw [BitVec.toNat_ofInt]; omega
  have e2 : (BitVec.ofInt 64 (b.toNat : Int)).toNat = b.toNat := by rw [BitVec.toNat_ofInt]; omega
  rw [BitVec.toNat_or, e1, e2, or_nat]
  simp [IntKind.wrap, IntKind.bits, IntKind.signed]; omega
def RetNm (w : World) (g B : Nat) (r : List UInt8) (sh : Bool) (k : Nat) (e : Ending) (w' : World) : Prop :=
  e = .returned (.int .i64 (beVal (tk r k) : Int)) ∧ Rd w' g B (dr r k) (sh || decide (r.length < k)) ∧ w.grownBy w' (some g)
set_option maxHeartbeats 2000000 in
theorem rnum_any (g B : Nat) (r : List UInt8) (sh : Bool) (w : World) (h : Rd w g B r sh) :
    Calls Try.prog 69 #[.pointer (some ⟨g, 0, none⟩)] w (RetNm w g B r sh 4) := by
  have T := Lib.hid (take_any g B r sh 4 w h (by omega))
  have hlen := tk_len r 4
  unfold RetNm
  unfold RetTk12 at T
  generalize tk r 4 = L at *
  generalize dr r 4 = D at *
  generalize (sh || decide (r.length < 4)) = sh' at *
  have HL := Lib.hid hlen; clear hlen h
  go_enter Try.func69, Try.ntmps69
  go_wp2_with fail
  refine T.out.mono ?_
  rintro e w1 ⟨A, c, rfl, hc, hr, hrd, hbt, hne⟩
  have HRd := Lib.hid (And.intro hrd hbt)
  clear hrd hbt
  go_wp2
  go_loop [3, 9] (fun uv iv => ∃ j : Nat, j ≤ 4 ∧ iv = .int .i64 j ∧ uv = .int .i64 ((beVal (L.take j) : Nat) : Int)) (fun _ iv => 4 - (intOf iv).toNat)
  case atStart => exact ⟨0, by omega, rfl, rfl⟩
  case round =>
    obtain ⟨j, hj, rfl, rfl⟩ := hrel
    have q0 : (0 : Int) ≤ (j : Int) := by omega
    by_cases hlt : j < 4
    · have q1 : (j : Int) < 4 := by omega
      obtain ⟨ad, b, rfl, _, hb, cb⟩ := hr.byte hlt
      have hbt := Lib.hid (beVal_take hb)
      have hlt2 : beVal (L.take j) < 16777216 := by
        have h1 := beVal_lt_of (l := L.take j) (n := 3) (by rw [List.length_take]; omega)
        omega
      have hor := or_i6412 (beVal (L.take j)) b hlt2
      rw [← hbt.out] at hor
      clear hlt2 hb hbt
      obtain ⟨U, hU⟩ : ∃ U, beVal (L.take j) = U := ⟨_, rfl⟩
      rw [hU] at hor ⊢
      clear hU
      have HOR := Lib.hid hor; clear hor
      have xb : (b.toNat : Int) ≤ 255 := by have := b.toNat_lt; omega
      have xb0 : (0 : Int) ≤ (b.toNat : Int) := by omega
      go_wp2
      go_round
      case rel => exact ⟨j + 1, by omega, by go_num, val_int HOR.out⟩
      case measure => simp [intOf]; omega
    · obtain rfl : j = 4 := by omega
      have hT : Hid (beVal (L.take 4) = beVal L) := Lib.hid (by rw [List.take_of_length_le (by rw [HL.out]; exact Nat.le_refl _)])
      go_wp2
      go_ret
      exact ⟨by rw [hT.out]; rfl, HRd.out.1, HRd.out.2⟩

def RetOne (w : World) (g B : Nat) (r : List UInt8) (sh : Bool) (e : Ending) (w' : World) : Prop :=
  ∃ b : UInt8, tk r 1 = [b] ∧ e = .returned (.int .i64 (b.toNat : Int)) ∧ Rd w' g B (dr r 1) (sh || decide (r.length < 1)) ∧ w.grownBy w' (some g)
theorem one_of {l : List UInt8} (h : l.length = 1) : ∃ b, l = [b] := by
  match l, h with
  | [b], _ => exact ⟨b, rfl⟩
/-- One byte, where it lies. -/
def RetB1 (w : World) (g B : Nat) (r : List UInt8) (sh : Bool) (e : Ending) (w' : World) : Prop :=
  ∃ (b : UInt8) (ad : Addr) (c : Nat), tk r 1 = [b] ∧ e = .returned (.slice (some ad) 1 c) ∧ w'.cell? ad = some (.int .u8 (b.toNat : Int)) ∧ ad.block ≠ g ∧ Rd w' g B (dr r 1) (sh || decide (r.length < 1)) ∧ w.grownBy w' (some g)
theorem byte_any (g B : Nat) (r : List UInt8) (sh : Bool) (w : World) (h : Rd w g B r sh) :
    Calls Try.prog 67 #[.pointer (some ⟨g, 0, none⟩), .int .i64 1] w (RetB1 w g B r sh) :=
  (take_any g B r sh 1 w h (by omega)).mono fun e w' ⟨A, c, he, hc, hr, hrd, hbt, hne⟩ => by
    obtain ⟨b, hb⟩ := one_of (tk_len r 1)
    rw [hb] at hr
    obtain ⟨ad, b', hA, _, hb', cb⟩ := hr.byte (show 0 < 1 by omega)
    simp at hb'
    subst hb'
    rw [add_zero_] at cb
    exact ⟨b, ad, c, hb, by rw [he, hA], cb, hne (by omega) ad hA, hrd, hbt⟩
theorem count_any12 (g B : Nat) (r : List UInt8) (sh : Bool) (w : World) (h : Rd w g B r sh) :
    Calls Try.prog 48 #[.pointer (some ⟨g, 0, none⟩)] w (RetOne w g B r sh) := by
  have T := Lib.hid (take_any g B r sh 1 w h (by omega))
  obtain ⟨b, hb⟩ := one_of (tk_len r 1)
  unfold RetTk12 at T
  rw [hb] at T
  have HB := Lib.hid hb
  clear h hb
  have b0 : (0 : Int) ≤ (b.toNat : Int) := by omega
  have b1 : (b.toNat : Int) ≤ 255 := by have := b.toNat_lt; omega
  go_enter Try.func48, Try.ntmps48
  go_wp2_with fail
  refine T.out.mono ?_
  rintro e w1 ⟨A, c, rfl, hc, hr, hrd, hbt, hne⟩
  obtain ⟨ad, b', rfl, _, hb', cb⟩ := hr.byte (show 0 < 1 by omega)
  simp at hb'
  subst hb'
  have cb' : w1.cell? ad = some (.int .u8 (b.toNat : Int)) := by have h := cb; rwa [add_zero_] at h
  have HRd := Lib.hid (And.intro hrd hbt)
  clear hrd hbt hr cb
  go_wp2
  go_ret
  exact ⟨b, HB.out, rfl, HRd.out.1, HRd.out.2⟩
/-- A text: as many bytes as the first one says. -/
def RetTxt (w : World) (g B : Nat) (r : List UInt8) (sh : Bool) (e : Ending) (w' : World) : Prop :=
  ∃ (b : UInt8), tk r 1 = [b] ∧ e = .returned (.string (str (tk (dr r 1) b.toNat))) ∧ Rd w' g B (dr (dr r 1) b.toNat) ((sh || decide (r.length < 1)) || decide ((dr r 1).length < b.toNat)) ∧ w.grownBy w' (some g)
theorem text2_any (g B : Nat) (r : List UInt8) (sh : Bool) (w : World) (h : Rd w g B r sh) :
    Calls Try.prog 68 #[.pointer (some ⟨g, 0, none⟩)] w (RetTxt w g B r sh) := by
  have C := Lib.hid (count_any12 g B r sh w h)
  clear h
  go_enter Try.func68, Try.ntmps68
  go_wp2_with fail
  refine C.out.mono ?_
  rintro e w1 ⟨b, hb, rfl, hrd, hbt⟩
  have T := Lib.hid (take_any g B (dr r 1) (sh || decide (r.length < 1)) b.toNat w1 hrd (by have := b.toNat_lt; omega))
  have H1 := Lib.hid (And.intro hb hbt)
  clear hb hrd hbt
  go_wp2_with fail
  refine T.out.mono ?_
  rintro e w2 ⟨A, c, rfl, hc, hr, hrd, hbt, hne⟩
  have cv := conv_reads (P := Try.prog) hr 27 5 9 Try.underlying27 Try.underlying5 Try.underlying9 c
  have H2 := Lib.hid (And.intro hrd (but_trans H1.out.2 hbt))
  obtain ⟨s, hs⟩ : ∃ s, str (tk (dr r 1) b.toNat) = s := ⟨_, rfl⟩
  rw [hs] at cv
  have HS := Lib.hid hs
  clear hr hrd hbt hs
  go_wp2
  go_ret
  exact ⟨b, H1.out.1, by rw [HS.out]; rfl, H2.out.1, H2.out.2⟩
end
end Go.Proofs.Ytjlpfhioacphkaa
/-
  Reading, plain: what the reader answers stands to what is read (Rel); step by step.
-/
namespace Go.Proofs.Ytjlpfhioacphkaa
section
set_option linter.unusedSimpArgs false
set_option linter.unusedVariables false
open Go.RowKit

/-- A reader at r (short: sh) answered a and stands at r' (short: sh'): it is as g reads, or short. -/
def Rel {α : Type} (g : List UInt8 → Got α) (r : List UInt8) (sh : Bool) (a : α) (r' : List UInt8) (sh' : Bool) : Prop :=
  (sh = true → sh' = true) ∧ (sh = false → (sh' = true ∧ g r = none) ∨ (sh' = false ∧ g r = some (a, r')))
theorem tk_take {r : List UInt8} {k : Nat} (h : k ≤ r.length) : tk r k = r.take k ∧ dr r k = r.drop k := by
  unfold tk dr
  rw [if_neg (by omega), if_neg (by omega)]
  exact ⟨rfl, rfl⟩
theorem rel_take (r : List UInt8) (sh : Bool) (k : Nat) : Rel (gTake k) r sh (tk r k) (dr r k) (sh || decide (r.length < k)) := by
  refine ⟨fun h => by rw [h]; rfl, fun h => ?_⟩
  subst h
  rw [Bool.false_or]
  by_cases hk : k ≤ r.length
  · right
    refine ⟨decide_eq_false (by omega), ?_⟩
    unfold gTake
    rw [if_pos hk, (tk_take hk).1, (tk_take hk).2]
  · left
    refine ⟨decide_eq_true (by omega), ?_⟩
    unfold gTake
    rw [if_neg hk]
theorem rel_one {r : List UInt8} {sh : Bool} {b : UInt8} (hb : tk r 1 = [b]) : Rel gOne r sh b.toNat (dr r 1) (sh || decide (r.length < 1)) := by
  refine ⟨fun h => by rw [h]; rfl, fun h => ?_⟩
  subst h
  rw [Bool.false_or]
  cases r with
  | nil => exact .inl ⟨rfl, rfl⟩
  | cons c t =>
    right
    obtain ⟨h1, h2⟩ := tk_take (r := c :: t) (k := 1) (by simp)
    rw [h1] at hb
    simp at hb
    subst hb
    refine ⟨by simp, ?_⟩
    rw [h2]
    rfl
theorem rel_four (r : List UInt8) (sh : Bool) : Rel gFour r sh (beVal (tk r 4)) (dr r 4) (sh || decide (r.length < 4)) := by
  have h := rel_take r sh 4
  refine ⟨h.1, fun hs => ?_⟩
  unfold gFour
  rcases h.2 hs with ⟨h1, h2⟩ | ⟨h1, h2⟩
  · rw [h2]; exact .inl ⟨h1, rfl⟩
  · rw [h2]; exact .inr ⟨h1, rfl⟩
theorem Rel.int {g : List UInt8 → Got Nat} {r r' : List UInt8} {sh sh' : Bool} {n : Nat} (h : Rel g r sh n r' sh') : Rel (gInt g) r sh (n : Int) r' sh' := by
  refine ⟨h.1, fun hs => ?_⟩
  unfold gInt
  rcases h.2 hs with ⟨h1, h2⟩ | ⟨h1, h2⟩
  · rw [h2]; exact .inl ⟨h1, rfl⟩
  · rw [h2]; exact .inr ⟨h1, rfl⟩
/-- One behind the other. -/
theorem Rel.bind {α β γ : Type} {g : List UInt8 → Got α} {k : α → List UInt8 → Got β} {G : List UInt8 → Got γ} {f : α → β → γ} {r r1 r2 : List UInt8} {sh s1 s2 : Bool} {a : α} {b : β}
    (h1 : Rel g r sh a r1 s1) (h2 : Rel (k a) r1 s1 b r2 s2)
    (hG : ∀ l, G l = match g l with | none => none | some (a, q) => match k a q with | none => none | some (b, q) => some (f a b, q)) : Rel G r sh (f a b) r2 s2 := by
  refine ⟨fun h => h2.1 (h1.1 h), fun h => ?_⟩
  rw [hG]
  rcases h1.2 h with ⟨e1, e2⟩ | ⟨e1, e2⟩
  · rw [e2]; exact .inl ⟨h2.1 e1, rfl⟩
  · rw [e2]
    simp only
    rcases h2.2 e1 with ⟨e3, e4⟩ | ⟨e3, e4⟩
    · rw [e4]; exact .inl ⟨e3, rfl⟩
    · rw [e4]; exact .inr ⟨e3, rfl⟩
theorem rel_text {r : List UInt8} {sh : Bool} {b : UInt8} (hb : tk r 1 = [b]) : Rel gText r sh (tk (dr r 1) b.toNat) (dr (dr r 1) b.toNat) ((sh || decide (r.length < 1)) || decide ((dr r 1).length < b.toNat)) :=
  Rel.bind (k := fun n l => gTake n l) (f := fun _ s => s) (rel_one hb) (rel_take _ _ _) (fun l => by
    unfold gText
    cases gOne l with
    | none => rfl
    | some x =>
      obtain ⟨n, q⟩ := x
      simp only
      cases gTake n q with
      | none => rfl
      | some y => rfl)
theorem rel_many_nil {α : Type} (g : List UInt8 → Got α) (r : List UInt8) (sh : Bool) : Rel (gMany g 0) r sh [] r sh := ⟨id, fun h => .inr ⟨h, rfl⟩⟩
theorem gMany_snoc {α : Type} (g : List UInt8 → Got α) : ∀ (n : Nat) (l : List UInt8), gMany g (n + 1) l = match gMany g n l with
    | none => none
    | some (xs, q) => match g q with
      | none => none
      | some (a, q) => some (xs ++ [a], q) := by
  intro n
  induction n with
  | zero =>
    intro l
    simp only [gMany]
    cases g l with
    | none => rfl
    | some x => rfl
  | succ n ih =>
    intro l
    rw [gMany]
    conv => rhs; rw [gMany]
    cases g l with
    | none => rfl
    | some x =>
      obtain ⟨a, q⟩ := x
      simp only
      rw [ih q]
      cases gMany g n q with
      | none => rfl
      | some y =>
        obtain ⟨xs, q2⟩ := y
        simp only
        cases g q2 with
        | none => rfl
        | some z => rfl
theorem Rel.snoc {α : Type} {g : List UInt8 → Got α} {n : Nat} {r r1 r2 : List UInt8} {sh s1 s2 : Bool} {xs : List α} {a : α} (h1 : Rel (gMany g n) r sh xs r1 s1) (h2 : Rel g r1 s1 a r2 s2) : Rel (gMany g (n + 1)) r sh (xs ++ [a]) r2 s2 :=
  Rel.bind (k := fun _ l => g l) (f := fun xs a => xs ++ [a]) h1 h2 (fun l => by
    rw [gMany_snoc]
    cases gMany g n l with
    | none => rfl
    | some x =>
      obtain ⟨a, q⟩ := x
      first
        | rfl
        | (simp only; cases g q with
          | none => rfl
          | some y => rfl)
        | (cases g q with
          | none => rfl
          | some y => rfl))
theorem rel_col {r r1 r2 r3 r4 : List UInt8} {sh s1 s2 s3 s4 : Bool} {t : List UInt8} {k d u : Int} (h1 : Rel gText r sh t r1 s1) (h2 : Rel (gInt gOne) r1 s1 k r2 s2) (h3 : Rel (gInt gFour) r2 s2 d r3 s3) (h4 : Rel (gInt gFour) r3 s3 u r4 s4) : Rel gCol r sh ⟨t, k, d, u⟩ r4 s4 := by
  refine ⟨fun h => h4.1 (h3.1 (h2.1 (h1.1 h))), fun h => ?_⟩
  unfold gCol
  rcases h1.2 h with ⟨e1, e2⟩ | ⟨e1, e2⟩ <;> rw [e2]
  · exact .inl ⟨h4.1 (h3.1 (h2.1 e1)), rfl⟩
  simp only
  rcases h2.2 e1 with ⟨e3, e4⟩ | ⟨e3, e4⟩ <;> rw [e4]
  · exact .inl ⟨h4.1 (h3.1 e3), rfl⟩
  simp only
  rcases h3.2 e3 with ⟨e5, e6⟩ | ⟨e5, e6⟩ <;> rw [e6]
  · exact .inl ⟨h4.1 e5, rfl⟩
  simp only
  rcases h4.2 e5 with ⟨e7, e8⟩ | ⟨e7, e8⟩ <;> rw [e8]
  · exact .inl ⟨e7, rfl⟩
  · exact .inr ⟨e7, rfl⟩
theorem rel_nums {r r1 r2 r3 : List UInt8} {sh s1 s2 s3 : Bool} {a b c : Int} (h1 : Rel (gInt gFour) r sh a r1 s1) (h2 : Rel (gInt gFour) r1 s1 b r2 s2) (h3 : Rel (gInt gFour) r2 s2 c r3 s3) : Rel gNums3 r sh (a, b, c) r3 s3 := by
  refine ⟨fun h => h3.1 (h2.1 (h1.1 h)), fun h => ?_⟩
  unfold gNums3
  rcases h1.2 h with ⟨e1, e2⟩ | ⟨e1, e2⟩ <;> rw [e2]
  · exact .inl ⟨h3.1 (h2.1 e1), rfl⟩
  simp only
  rcases h2.2 e1 with ⟨e3, e4⟩ | ⟨e3, e4⟩ <;> rw [e4]
  · exact .inl ⟨h3.1 e3, rfl⟩
  simp only
  rcases h3.2 e3 with ⟨e5, e6⟩ | ⟨e5, e6⟩ <;> rw [e6]
  · exact .inl ⟨e5, rfl⟩
  · exact .inr ⟨e5, rfl⟩
theorem rel_tab {r r1 r2 r3 r4 : List UInt8} {sh s1 s2 s3 s4 : Bool} {t : List UInt8} {n : Nat} {cs : List PC} {a b c : Int} (h1 : Rel gText r sh t r1 s1) (h2 : Rel gOne r1 s1 n r2 s2) (h3 : Rel (gMany gCol n) r2 s2 cs r3 s3) (h4 : Rel gNums3 r3 s3 (a, b, c) r4 s4) : Rel gTab r sh ⟨t, cs, a, b, c⟩ r4 s4 := by
  refine ⟨fun h => h4.1 (h3.1 (h2.1 (h1.1 h))), fun h => ?_⟩
  unfold gTab
  rcases h1.2 h with ⟨e1, e2⟩ | ⟨e1, e2⟩ <;> rw [e2]
  · exact .inl ⟨h4.1 (h3.1 (h2.1 e1)), rfl⟩
  simp only
  rcases h2.2 e1 with ⟨e3, e4⟩ | ⟨e3, e4⟩ <;> rw [e4]
  · exact .inl ⟨h4.1 (h3.1 e3), rfl⟩
  simp only
  rcases h3.2 e3 with ⟨e5, e6⟩ | ⟨e5, e6⟩ <;> rw [e6]
  · exact .inl ⟨h4.1 e5, rfl⟩
  simp only
  rcases h4.2 e5 with ⟨e7, e8⟩ | ⟨e7, e8⟩ <;> rw [e8]
  · exact .inl ⟨e7, rfl⟩
  · exact .inr ⟨e7, rfl⟩
theorem rel_idx {r r1 r2 r3 r4 r5 r6 : List UInt8} {sh s1 s2 s3 s4 s5 s6 : Bool} {t : List UInt8} {tb : Int} {n : Nat} {cs ds : List Int} {a b c : Int} (h1 : Rel gText r sh t r1 s1) (h2 : Rel (gInt gOne) r1 s1 tb r2 s2) (h3 : Rel gOne r2 s2 n r3 s3) (h4 : Rel (gMany (gInt gOne) n) r3 s3 cs r4 s4) (h5 : Rel gNums3 r4 s4 (a, b, c) r5 s5) (h6 : Rel (gMany (gInt gFour) n) r5 s5 ds r6 s6) : Rel gIdx r sh ⟨t, tb, cs, a, b, c, ds⟩ r6 s6 := by
  refine ⟨fun h => h6.1 (h5.1 (h4.1 (h3.1 (h2.1 (h1.1 h))))), fun h => ?_⟩
  unfold gIdx
  rcases h1.2 h with ⟨e1, e2⟩ | ⟨e1, e2⟩ <;> rw [e2]
  · exact .inl ⟨h6.1 (h5.1 (h4.1 (h3.1 (h2.1 e1)))), rfl⟩
  simp only
  rcases h2.2 e1 with ⟨e3, e4⟩ | ⟨e3, e4⟩ <;> rw [e4]
  · exact .inl ⟨h6.1 (h5.1 (h4.1 (h3.1 e3))), rfl⟩
  simp only
  rcases h3.2 e3 with ⟨e5, e6⟩ | ⟨e5, e6⟩ <;> rw [e6]
  · exact .inl ⟨h6.1 (h5.1 (h4.1 e5)), rfl⟩
  simp only
  rcases h4.2 e5 with ⟨e7, e8⟩ | ⟨e7, e8⟩ <;> rw [e8]
  · exact .inl ⟨h6.1 (h5.1 e7), rfl⟩
  simp only
  rcases h5.2 e7 with ⟨e9, e10⟩ | ⟨e9, e10⟩ <;> rw [e10]
  · exact .inl ⟨h6.1 e9, rfl⟩
  simp only
  rcases h6.2 e9 with ⟨e11, e12⟩ | ⟨e11, e12⟩ <;> rw [e12]
  · exact .inl ⟨e11, rfl⟩
  · exact .inr ⟨e11, rfl⟩
end
end Go.Proofs.Ytjlpfhioacphkaa
/-
  The reference's Value.
-/
namespace Go.Proofs.Ytjlpfhioacphkaa
section
set_option linter.unusedSimpArgs false
set_option linter.unusedVariables false
open Go.RowKit

theorem str_get12 {l : List UInt8} {j : Nat} {b : UInt8} (h : j < (str l).size) (hb : l[j]? = some b) : (str l)[j] = b := by
  have := str_at l j h
  rw [hb] at this
  exact (Option.some.inj this).symm
theorem val_step12 (U : Nat) (b : UInt8) (hU : U < 256 ^ 6) : IntKind.u64.wrap (IntKind.u64.wrap (256 * (U : Int)) + IntKind.u64.wrap (b.toNat : Int)) = ((256 * U + b.toNat : Nat) : Int) := by
  have hb := b.toNat_lt
  rw [IntKind.wrap_u64, IntKind.wrap_u64, IntKind.wrap_u64]
  omega
set_option maxRecDepth 100000 in
set_option maxHeartbeats 1000000 in
theorem dval_any12 (l : List UInt8) (hl : l.length ≤ 7) (w : World) : Calls Try.prog 31 #[.string (str l)] w fun e w' => e = .returned (.int .u64 (beVal l)) ∧ w = w' := by
  have hz : (str l).size ≤ 7 := by rw [str_size]; exact hl
  have hzl := Lib.hid (str_size l)
  go_enter Try.func31, Try.ntmps31
  go_wp2
  go_loop [3, 4] (fun uv iv => ∃ j : Nat, j ≤ l.length ∧ iv = .int .i64 j ∧ uv = .int .u64 ((beVal (l.take j) : Nat) : Int)) (fun _ iv => 10 - (intOf iv).toNat)
  case atStart => exact ⟨0, by omega, rfl, rfl⟩
  case round =>
    obtain ⟨j, hj, rfl, rfl⟩ := hrel
    have q0 : (0 : Int) ≤ (j : Int) := by omega
    by_cases hlt : j < (str l).size
    · have hlt' : j < l.length := by rw [← hzl.out]; exact hlt
      have hb : l[j]? = some l[j] := List.getElem?_eq_getElem hlt'
      have hg := Lib.hid (str_get12 hlt hb)
      have hbt := Lib.hid (beVal_take hb)
      have hU := beVal_lt_of (l := l.take j) (n := 6) (by rw [List.length_take]; omega)
      obtain ⟨b, hbe⟩ : ∃ b, l[j] = b := ⟨_, rfl⟩
      rw [hbe] at hg hbt
      have hor := Lib.hid (val_step12 (beVal (l.take j)) b hU)
      obtain ⟨U, hUe⟩ : ∃ U, beVal (l.take j) = U := ⟨_, rfl⟩
      rw [hUe] at hbt hor ⊢
      clear hbe hUe hU hb
      go_wp2
      go_round
      case rel => exact ⟨j + 1, by omega, by go_num, val_int (by rw [hg.out, hbt.out]; exact hor.out)⟩
      case measure => simp [intOf]; omega
    · have h1 : j = l.length := by have := hzl.out; omega
      have h2 : Hid (l.take j = l) := Lib.hid (List.take_of_length_le (by omega))
      rw [h2.out]
      clear h1
      go_wp2
      go_ret
      exact ⟨rfl, rfl⟩
end
end Go.Proofs.Ytjlpfhioacphkaa
