/-
  Several texts in one: Sa Sb Sc Sd.
-/
import Derived.Test.YtdimkeoncgjegaaMfaf
import Derived.Test.YtdimkeoncgjegaaMfac
import Derived.Test.YtdimkeoncgjegaaMfad
import Derived.Deep.QuietTactic
import Derived.IntWalk
import Derived.WalkSpells
/-
  Slots of a heap page: numbers of two bytes, where a slot stands; the library's ContainsFunc, Clone.
-/
namespace Go.Proofs.Ytdimkeoncgjegaa
section
open Go.RowKit

/-- A number of two bytes that stands somewhere. -/
def two (l : List UInt8) (i : Nat) : Nat := 256 * (l.getD i 0).toNat + (l.getD (i + 1) 0).toNat
theorem two_lt (l : List UInt8) (i : Nat) : two l i < 65536 := by
  unfold two
  have := (l.getD i 0).toNat_lt
  have := (l.getD (i + 1) 0).toNat_lt
  omega
theorem or_i64 (x b : UInt8) : bits .or .i64 ((x.toNat : Int) * 256) (b.toNat : Int) = ((256 * x.toNat + b.toNat : Nat) : Int) := by
  have hb := b.toNat_lt
  have hx := x.toNat_lt
  have h1 : (x.toNat : Int) * 256 = ((256 * x.toNat : Nat) : Int) := by omega
  rw [h1]
  show IntKind.i64.wrap ((BitVec.ofInt 64 ((256 * x.toNat : Nat) : Int) ||| BitVec.ofInt 64 (b.toNat : Int)).toNat : Int) = _
  have e1 : (BitVec.ofInt 64 ((256 * x.toNat : Nat) : Int)).toNat = 256 * x.toNat := by rw [BitVec.toNat_ofInt]; omega
  have e2 : (BitVec.ofInt 64 (b.toNat : Int)).toNat = b.toNat := by rw [BitVec.toNat_ofInt]; omega
  rw [BitVec.toNat_or, e1, e2, or_nat]
  simp [IntKind.wrap, IntKind.bits, IntKind.signed]; omega
theorem slotAt_any (k : Nat) (hk : k ≤ 1000000) (w : World) : Calls Try.prog 47 #[.int .i64 k] w fun e w' => e = .returned (.int .i64 (8 + (k : Int) * 4)) ∧ w = w' := by
  have h0 : (0 : Int) ≤ (k : Int) := by omega
  have h1 : (k : Int) ≤ 1000000 := by omega
  go_enter Try.func47, Try.ntmps47
  go_wp2
  go_ret
  exact ⟨rfl, rfl⟩
set_option maxRecDepth 100000 in
theorem two_any (A : Option Addr) (n c B : Nat) (l : List UInt8) (i : Nat) (w : World) (hr : Reads w B 1 A n (bL l)) (hi : i + 1 < n) (hn : n ≤ 1000000) :
    Calls Try.prog 62 #[.slice A n c, .int .i64 i] w (RetB w (.int .i64 (two l i : Nat))) := by
  obtain ⟨ad, x, rfl, hb, hx, c0⟩ := hr.byte (k := i) (by omega)
  obtain ⟨ad', y, e, _, hy, c1⟩ := hr.byte (k := i + 1) (by omega)
  injection e with e
  subst e
  have ht : two l i = 256 * x.toNat + y.toNat := by unfold two; rw [List.getD_eq_getElem?_getD, List.getD_eq_getElem?_getD, hx, hy]; rfl
  have ho := or_i64 x y
  rw [← ht] at ho
  obtain ⟨V, hV⟩ : ∃ V, two l i = V := ⟨_, rfl⟩
  rw [hV] at ho ⊢
  have b3 : (x.toNat : Int) ≤ 255 := by have := x.toNat_lt; omega
  have b2 : (y.toNat : Int) ≤ 255 := by have := y.toNat_lt; omega
  have g0 : (0 : Int) ≤ (i : Int) := by omega
  have g1 : (i : Int) < (n : Int) := by omega
  have g2 : (i : Int) + 1 < (n : Int) := by omega
  have g3 : (n : Int) ≤ 1000000 := by omega
  have ea : ad.add (i + 1) = ⟨ad.block, ad.off + (i + 1), none⟩ := by unfold Addr.add; simp
  rw [ea] at c1
  have g4 : (0 : Int) ≤ (i : Int) + 1 := by omega
  clear ea
  have wr1 : IntKind.i64.wrap ((i : Int) + 1) = (i : Int) + 1 := IntWalk.i64_in _ (by omega)
  clear ht hV hx hy hr
  go_enter Try.func62, Try.ntmps62
  go_wp2_with fail
  go_region
  go_wp2
  go_ret
  exact ⟨rfl, (Below.refl _ _).drew⟩
end
end Go.Proofs.Ytdimkeoncgjegaa
/-
  Slots of a heap page: the library's ContainsFunc over bytes that are not 0.
-/
namespace Go.Proofs.Ytdimkeoncgjegaa
section
open Go.RowKit

theorem end_any (a b : Nat) (ha : a ≤ 1000000) (hb : b ≤ 1000000) (w : World) : Calls Try.prog 63 #[.agg #[.int .i64 a, .int .i64 b]] w (RetB w (.int .i64 ((a : Int) + (b : Int)))) := by
  have h0 : (0 : Int) ≤ (a : Int) := by omega
  have h1 : (a : Int) ≤ 1000000 := by omega
  have h2 : (0 : Int) ≤ (b : Int) := by omega
  have h3 : (b : Int) ≤ 1000000 := by omega
  go_enter Try.func63, Try.ntmps63
  go_wp2
  go_ret
  exact ⟨rfl, ball (Below.refl _ _) _⟩
theorem nz_any (x : Int) (w : World) : Calls Try.prog 65 #[.int .u8 x] w fun e w' => e = .returned (.bool (x != 0)) ∧ w = w' := by
  go_enter Try.func65, Try.ntmps65
  go_wp2
  go_ret
  exact ⟨rfl, rfl⟩
/-- All bytes are 0. -/
def allZ (l : List UInt8) : Bool := l.all (· == 0)
theorem allZ_take {l : List UInt8} {k : Nat} {x : UInt8} (h : l[k]? = some x) : allZ (l.take (k + 1)) = (allZ (l.take k) && (x == 0)) := by
  unfold allZ
  rw [List.take_add_one, h]; simp
theorem allZ_false {l : List UInt8} {k : Nat} {x : UInt8} (h : l[k]? = some x) (hx : x ≠ 0) : allZ l = false := by
  unfold allZ
  rw [List.all_eq_false]
  exact ⟨x, List.mem_of_getElem? h, by simpa using hx⟩
set_option maxRecDepth 100000 in
theorem index_any (A : Option Addr) (n c B : Nat) (l : List UInt8) (w : World) (hr : Reads w B 1 A n (bL l)) (hn : n ≤ 1000000) :
    Calls Try.prog 76 #[.slice A n c, .func (.func 65) #[] #[]] w fun e w' => ∃ r : Int, e = .returned (.int .i64 r) ∧ w = w' ∧ decide (0 ≤ r) = !(allZ l) := by
  have hnI : (n : Int) ≤ 1000000 := by omega
  have hl := hr.bytes_len
  have Hl := Lib.hid hl; clear hl
  go_enter Try.func76, Try.ntmps76
  go_wp2_with fail
  go_loop [8] (fun v => ∃ k : Nat, v = .int .i64 k ∧ k ≤ n ∧ allZ (l.take k) = true) (fun v => n - (intOf v).toNat)
  case atStart => exact ⟨0, rfl, by omega, rfl⟩
  case round =>
    obtain ⟨k, rfl, hk, hz⟩ := hrel
    have g1 : (0 : Int) ≤ (k : Int) := by omega
    have Hz := Lib.hid hz; clear hz
    by_cases hki : k < n
    · have g2 : (k : Int) < (n : Int) := by omega
      obtain ⟨ad, x, rfl, _, hx, d1⟩ := hr.byte hki
      have Hx := Lib.hid hx; clear hx
      by_cases hx0 : x = 0
      · have e1 : ((x.toNat : Int) != 0) = false := by subst hx0; rfl
        have Hx0 := Lib.hid hx0; clear hx0
        go_wp2_with (go_at_call 65; refine (nz_any _ _).mono ?_; rintro e w' ⟨rfl, rfl⟩)
        go_round
        case rel => exact ⟨k + 1, by go_num, by omega, by rw [allZ_take Hx.out, Hz.out, Hx0.out]; rfl⟩
        case measure => simp [intOf]; omega
      · have e1 : ((x.toNat : Int) != 0) = true := by
          have : ¬ x.toNat = 0 := fun e => hx0 (UInt8.toNat_inj.1 e)
          simp; omega
        have Hx0 := Lib.hid hx0; clear hx0
        go_wp2_with (go_at_call 65; refine (nz_any _ _).mono ?_; rintro e w' ⟨rfl, rfl⟩)
        go_ret
        exact ⟨(k : Int), rfl, rfl, by rw [allZ_false Hx.out Hx0.out]; simp⟩
    · obtain rfl : n = k := by omega
      have e1 : l.take n = l := List.take_of_length_le (by rw [Hl.out]; exact Nat.le_refl _)
      have h2 := Hz.out
      rw [e1] at h2
      have H2 := Lib.hid h2; clear h2 e1
      go_wp2
      go_ret
      exact ⟨-1, rfl, rfl, by rw [H2.out]; rfl⟩
theorem contains_any (A : Option Addr) (n c B : Nat) (l : List UInt8) (w : World) (hr : Reads w B 1 A n (bL l)) (hn : n ≤ 1000000) :
    Calls Try.prog 64 #[.slice A n c, .func (.func 65) #[] #[]] w fun e w' => e = .returned (.bool (!(allZ l))) ∧ w = w' := by
  have I := Lib.hid (index_any A n c B l w hr hn)
  clear hr
  go_enter Try.func64, Try.ntmps64
  go_wp2_with fail
  refine I.out.mono ?_
  rintro e w' ⟨r, rfl, rfl, hq⟩
  have Hq := Lib.hid hq; clear hq
  go_wp2
  go_ret
  exact ⟨ret_bool (by rw [← Hq.out]), rfl⟩
end
end Go.Proofs.Ytdimkeoncgjegaa
/-
  Slots of a heap page: where its records stand (places).
-/
namespace Go.Proofs.Ytdimkeoncgjegaa
section
open Go.RowKit

theorem Try.infoPl : (Try.prog.info? 137).map (fun i => (i.zero, i.size, i.bytes)) = some (some (.agg #[.int .i64 0, .int .i64 0]), 2, 16) := by kernel_rfl
/-- Where the bytes of the first i records begin, if they stand as they must. -/
def endK (l : List UInt8) : Nat → Option Nat
  | 0 => some 512
  | i + 1 => (endK l i).bind fun e => if two l (8 + 4 * i + 2) ≠ 0 ∧ two l (8 + 4 * i) + two l (8 + 4 * i + 2) = e then some (two l (8 + 4 * i)) else none
theorem endK_le (l : List UInt8) : ∀ i e, endK l i = some e → e ≤ 512
  | 0, e, h => by injection h with h; omega
  | i + 1, e, h => by
    rw [endK] at h
    rcases hk : endK l i with _ | e'
    · rw [hk] at h; cases h
    · rw [hk, Option.bind_some] at h
      have := endK_le l i e' hk
      split at h
      · rename_i hc
        injection h with h
        omega
      · cases h
theorem endK_none (l : List UInt8) (i : Nat) (h : endK l i = none) : ∀ j, i ≤ j → endK l j = none := by
  intro j hj
  induction j with
  | zero => have : i = 0 := by omega
            subst this; exact h
  | succ j ih =>
    by_cases e : i = j + 1
    · subst e; exact h
    · rw [endK, ih (by omega)]; rfl
def pageEnd (l : List UInt8) : Bool := match endK l (hdC l) with
  | none => false
  | some e => decide (8 + 4 * hdC l ≤ e) && allZ ((l.drop (8 + 4 * hdC l)).take (e - (8 + 4 * hdC l)))
/-- Bytes that are a heap page. -/
def isPage (l : List UInt8) : Bool := hdOk l && (hdK l == 1 && (decide (8 + 4 * hdC l ≤ 512) && pageEnd l))
def plc (l : List UInt8) (i : Nat) : List Value := [.int .i64 (two l (8 + 4 * i) : Nat), .int .i64 (two l (8 + 4 * i + 2) : Nat)]
def plV (l : List UInt8) (m : Nat) : List Value := (List.range m).flatMap (plc l)
theorem plV_succ (l : List UInt8) (m : Nat) : plV l (m + 1) = plV l m ++ plc l m := by simp [plV, List.range_succ]
theorem plV_len (l : List UInt8) (m : Nat) : (plV l m).length = m * 2 := by
  induction m with
  | zero => rfl
  | succ m ih => rw [plV_succ, List.length_append, ih]; simp [plc]; omega
/-- The places while they are laid. -/
def plP (l : List UInt8) (c i : Nat) : Array Value := (plV l i ++ List.replicate ((c - i) * 2) (Value.int .i64 0)).toArray
theorem plP_zero (l : List UInt8) (c : Nat) : madeCells #[.int .i64 0, .int .i64 0] (c * 2) = plP l c 0 := by
  unfold plP
  apply Array.ext
  · simp [size_madeCells, plV]
  · intro j h1 h2
    have : j % 2 = 0 ∨ j % 2 = 1 := by omega
    rcases this with h | h <;> simp [madeCells, plV, h]
theorem plP_at (l : List UInt8) (c i j : Nat) (h : i < c) (hj : j < 2) : (plP l c i)[i * 2 + j]? = some (.int .i64 0) := by
  unfold plP
  rw [List.getElem?_toArray, List.getElem?_append_right (by rw [plV_len]; omega), plV_len, List.getElem?_replicate, if_pos (by omega)]
theorem plP_set (l : List UInt8) (c i : Nat) (h : i < c) : ((plP l c i).setIfInBounds (i * 2) (.int .i64 (two l (8 + 4 * i) : Nat))).setIfInBounds (i * 2 + 1) (.int .i64 (two l (8 + 4 * i + 2) : Nat)) = plP l c (i + 1) := by
  unfold plP
  have e : (c - i) * 2 = (c - (i + 1)) * 2 + 1 + 1 := by omega
  rw [e, List.replicate_succ, List.replicate_succ, List.setIfInBounds_toArray, List.setIfInBounds_toArray, List.set_append_right _ _ (by rw [plV_len]; omega), plV_len, Nat.sub_self, List.set_cons_zero,
    List.set_append_right _ _ (by rw [plV_len]; omega), plV_len, show i * 2 + 1 - i * 2 = 0 + 1 from by omega, List.set_cons_succ, List.set_cons_zero, plV_succ, List.append_assoc]
  rfl
theorem plP_get (l : List UInt8) (c i : Nat) : (plP l c (i + 1))[i * 2]? = some (.int .i64 (two l (8 + 4 * i) : Nat)) := by
  unfold plP
  rw [List.getElem?_toArray, plV_succ, List.append_assoc, List.getElem?_append_right (by rw [plV_len]; omega), plV_len, Nat.sub_self]
  rfl
theorem plP_end (l : List UInt8) (c : Nat) : (plP l c c).toList = plV l c := by simp [plP]

/-- What places leaves. -/
def RetPl (w : World) (l : List UInt8) (e : Ending) (w' : World) : Prop :=
  ∃ Ap m cp, e = .returned (.tuple #[.slice Ap m cp, .bool (isPage l)]) ∧ m = (if isPage l then hdC l else 0) ∧ Reads w' w'.heap.size 2 Ap m (plV l m) ∧ m ≤ cp ∧ Below w.heap.size w w'
theorem RetPl.no {w w' : World} {l : List UInt8} (h : isPage l = false) (hb : Below w.heap.size w w') : RetPl w l (.returned (.tuple #[.slice none 0 0, .bool false])) w' :=
  ⟨none, 0, 0, by rw [h], by rw [h]; rfl, Reads.none_, by omega, hb⟩

set_option maxRecDepth 100000 in
set_option maxHeartbeats 4000000 in
theorem places_any (A : Option Addr) (n c B : Nat) (l : List UInt8) (w : World) (hr : Reads w B 1 A n (bL l)) (hB : B ≤ w.heap.size) (hn : n ≤ 1000000) (hc : n ≤ c) :
    Calls Try.prog 42 #[.slice A n c] w (RetPl w l) := by
  have G := Lib.hid (dget_any A n c B l w hr hB (by omega))
  have hl := hr.bytes_len
  by_cases hok : hdOk l = true
  rotate_left
  · have ho : hdOk l = false := by simpa using hok
    have hp : Hid (isPage l = false) := by unfold Hid isPage; rw [ho]; rfl
    have hv : hdV l = .agg #[.int .u8 0, .int .u16 0, .int .u32 0] := by unfold hdV; rw [ho]; rfl
    unfold RetHd at G
    rw [hv, ho] at G
    clear ho hok hv hl hr
    go_enter Try.func42, Try.ntmps42
    go_wp2_with (go_at_call 59; refine G.out.mono ?_; rintro e w1 ⟨rfl, hb1⟩)
    go_ret2
    exact RetPl.no hp.out (ball hb1 _)
  have hn5 : l.length = 512 := by unfold hdOk at hok; simp at hok; exact hok.1
  obtain rfl : n = 512 := by omega
  have hv : hdV l = .agg #[.int .u8 (hdK l : Int), .int .u16 (hdC l : Int), .int .u32 (hdN l : Int)] := by unfold hdV; rw [hok]; rfl
  unfold RetHd at G
  rw [hv, hok] at G
  have hKl : hdK l < 256 := by unfold hdK; exact UInt8.toNat_lt _
  have hCl : hdC l < 65536 := by
    have := beVal_lt ((l.drop 2).take 2)
    unfold hdC
    have h2 : ((l.drop 2).take 2).length = 2 := by rw [List.length_take, List.length_drop, hn5]; omega
    rw [h2] at this
    omega
  have HP : Hid (isPage l = (hdK l == 1 && (decide (8 + 4 * hdC l ≤ 512) && pageEnd l))) := by unfold Hid isPage; rw [hok]; rfl
  have hpe : Hid (pageEnd l = match endK l (hdC l) with
    | none => false
    | some e => decide (8 + 4 * hdC l ≤ e) && allZ ((l.drop (8 + 4 * hdC l)).take (e - (8 + 4 * hdC l)))) := rfl
  clear hok hv hl
  obtain ⟨K, hK⟩ : ∃ K, hdK l = K := ⟨_, rfl⟩
  obtain ⟨C, hC⟩ : ∃ C, hdC l = C := ⟨_, rfl⟩
  have HC := Lib.hid hC
  rw [hK, hC] at G HP
  rw [hC] at hpe hCl
  rw [hK] at hKl
  clear hK hC
  by_cases hk1 : K = 1
  rotate_left
  · have hp : Hid (isPage l = false) := by unfold Hid; rw [HP.out]; simp [hk1]
    have e1 : ((K : Int) != 1) = true := by simp; omega
    clear hk1
    go_enter Try.func42, Try.ntmps42
    go_wp2_with (go_at_call 59; refine G.out.mono ?_; rintro e w1 ⟨rfl, hb1⟩)
    go_ret2
    exact RetPl.no hp.out (ball hb1 _)
  subst hk1
  by_cases h5 : 8 + 4 * C ≤ 512
  rotate_left
  · have hp : Hid (isPage l = false) := by unfold Hid; rw [HP.out]; simp [h5]
    have h5I : (512 : Int) < 8 + (C : Int) * 4 := by omega
    have SA := Lib.hid (slotAt_any C (by omega))
    clear h5
    go_enter Try.func42, Try.ntmps42
    go_wp2_with (first
      | (go_at_call 59; refine G.out.mono ?_; rintro e w1 ⟨rfl, hb1⟩)
      | (go_at_call 47; refine (SA.out _).mono ?_; rintro e w' ⟨rfl, rfl⟩))
    go_ret2
    exact RetPl.no hp.out (ball hb1 _)
  have hC126 : C ≤ 126 := by omega
  have hCI : (C : Int) ≤ 126 := by omega
  have h5I : 8 + (C : Int) * 4 ≤ 512 := by omega
  obtain ⟨i1, hi1, hz1, hs1, hy1⟩ := int_info8 Try.infoPl
  have mk1 : ∀ W, (Instr.makeSlice 116 (.int .u16 (C : Int)) (.int .u16 (C : Int))).run Try.prog W = .ok (.slice (some ⟨W.heap.size, 0, none⟩) C C) (W.alloc (.cells (plP l C 0) 137)) := by
    intro W
    have h := run_make (P := Try.prog) W 116 137 i1 (.agg #[.int .i64 0, .int .i64 0]) Try.underlying116 hi1 hz1 .u16 .u16 (C : Int) (C : Int) (by omega) (by omega) (by rw [hy1]; omega) (by omega)
    rw [Int.toNat_natCast, hs1] at h
    rw [← plP_zero]
    exact h
  clear hi1 hz1 hs1 hy1
  have SA := Lib.hid slotAt_any
  have HPE : Hid (isPage l = pageEnd l) := by unfold Hid; rw [HP.out]; simp [h5]
  clear h5
  go_enter Try.func42, Try.ntmps42
  go_wp2_with (first
    | (go_at_call 59; refine G.out.mono ?_; rintro e w1 ⟨rfl, hb1⟩)
    | (go_at_call 47; refine (SA.out C (by omega) _).mono ?_; rintro e w' ⟨rfl, rfl⟩))
  have hP0 : Blk ((w1.alloc (.cells #[.int .u8 1, .int .u16 (C : Int), .int .u32 (hdN l : Int)] 109)).alloc (.cells (plP l C 0) 137)) (w1.heap.size + 1) 137 (plP l C 0) := Blk.newAt (by simp)
  have hb0 : Below w.heap.size w ((w1.alloc (.cells #[.int .u8 1, .int .u16 (C : Int), .int .u32 (hdN l : Int)] 109)).alloc (.cells (plP l C 0) 137)) := ball (ball hb1 _) _
  have hz1 := hb1.size
  obtain ⟨g, hg⟩ : ∃ g, w1.heap.size + 1 = g := ⟨_, rfl⟩
  rw [hg] at hP0 ⊢
  obtain ⟨W0, hW0⟩ : ∃ W0, ((w1.alloc (.cells #[.int .u8 1, .int .u16 (C : Int), .int .u32 (hdN l : Int)] 109)).alloc (.cells (plP l C 0) 137)) = W0 := ⟨_, rfl⟩
  rw [hW0] at hP0 hb0 ⊢
  have hgw : w.heap.size ≤ g := by omega
  clear hg hW0 mk1 G
  go_loopw [7, 35] (fun u7 u35 wr => ∃ i e : Nat, u7 = .int .i64 e ∧ u35 = .int .i64 i ∧ i ≤ C ∧ endK l i = some e ∧ Blk wr g 137 (plP l C i) ∧ Below w.heap.size w wr) (fun _ u35 _ => C - (intOf u35).toNat)
  case atStart => exact ⟨0, 512, rfl, rfl, by omega, rfl, hP0, hb0⟩
  case round =>
    clear hP0 hb0
    obtain ⟨i, e, rfl, rfl, hi, he, hB1, hb⟩ := hrel
    have hel := endK_le l i e he
    have q0 : (0 : Int) ≤ (i : Int) := by omega
    have He := Lib.hid he; clear he
    by_cases hlt : i < C
    · have q1 : (i : Int) < (C : Int) := by omega
      obtain ⟨a, ha⟩ : ∃ a, two l (8 + 4 * i) = a := ⟨_, rfl⟩
      obtain ⟨b, hb'⟩ : ∃ b, two l (8 + 4 * i + 2) = b := ⟨_, rfl⟩
      have T1 : Hid (∀ W, Below w.heap.size w W → Calls Try.prog 62 #[.slice A 512 c, .int .i64 (8 + (i : Int) * 4)] W (RetB W (.int .i64 (a : Int)))) := by
        intro W hW
        have h := two_any A 512 c B l (8 + 4 * i) W (hr.below (hW.mono hB)) (by omega) (by omega)
        rw [ha, show ((8 + 4 * i : Nat) : Int) = 8 + (i : Int) * 4 from by omega] at h
        exact h
      have T2 : Hid (∀ W, Below w.heap.size w W → Calls Try.prog 62 #[.slice A 512 c, .int .i64 (8 + (i : Int) * 4 + 2)] W (RetB W (.int .i64 (b : Int)))) := by
        intro W hW
        have h := two_any A 512 c B l (8 + 4 * i + 2) W (hr.below (hW.mono hB)) (by omega) (by omega)
        rw [hb', show ((8 + 4 * i + 2 : Nat) : Int) = 8 + (i : Int) * 4 + 2 from by omega] at h
        exact h
      have a1 : a < 65536 := by rw [← ha]; exact two_lt _ _
      have b1 : b < 65536 := by rw [← hb']; exact two_lt _ _
      have HE : Hid (endK l (i + 1) = if b ≠ 0 ∧ a + b = e then some a else none) := by unfold Hid; rw [endK, He.out, Option.bind_some, ha, hb']
      have HS : Hid (((plP l C i).setIfInBounds (i * 2) (.int .i64 (a : Int))).setIfInBounds (i * 2 + 1) (.int .i64 (b : Int)) = plP l C (i + 1)) := by have := plP_set l C i hlt; rwa [ha, hb'] at this
      have EN := Lib.hid (end_any a b (by omega) (by omega))
      have HG : Hid ((plP l C (i + 1))[i * 2]? = some (.int .i64 (a : Int))) := by have := plP_get l C i; rwa [ha] at this
      clear ha hb'
      go_wp2_with (go_at_call 47; refine (SA.out i (by omega) _).mono ?_; rintro e w' ⟨rfl, rfl⟩)
      refine (T1.out _ hb).mono ?_
      rintro e2 w2 ⟨rfl, hb2⟩
      go_wp2_with fail
      refine (T2.out _ (bto0 hb hb2)).mono ?_
      rintro e3 w3 ⟨rfl, hb3⟩
      have hB3 := (hB1.below hb2 hB1.lt).below hb3 (hB1.below hb2 hB1.lt).lt
      have c0 : w3.cell? ⟨g, i * 2, none⟩ = some (.int .i64 0) := (hB3.cell (i * 2)).trans (plP_at l C i 0 hlt (by omega))
      have c1 : w3.cell? ⟨g, i * 2 + 1, none⟩ = some (.int .i64 0) := (hB3.cell (i * 2 + 1)).trans (plP_at l C i 1 hlt (by omega))
      have f0 := hB3.frozen (i * 2)
      have f1 := hB3.frozen (i * 2 + 1)
      have b4 := ((bto0 (bto0 hb hb2) hb3).setCell (show w.heap.size ≤ (⟨g, i * 2, none⟩ : Addr).block from hgw) (.int .i64 (a : Int))).setCell (show w.heap.size ≤ (⟨g, i * 2 + 1, none⟩ : Addr).block from hgw) (.int .i64 (b : Int))
      have hB4 := (hB3.set_ (i * 2) (.int .i64 (a : Int))).set_ (i * 2 + 1) (.int .i64 (b : Int))
      rw [HS.out] at hB4
      have H4 := Lib.hid (And.intro b4 hB4)
      clear T1 T2 hb hb2 hb3 hB1 hB3 b4 hB4
      by_cases hz : b = 0
      · have e1 : ((b : Int) == 0) = true := by simp; omega
        have hp : Hid (isPage l = false) := by
          unfold Hid
          rw [HPE.out, hpe.out, endK_none l (i + 1) (by rw [HE.out, if_neg (by omega)]) C (by omega)]
        clear hz
        go_wp2
        go_ret2
        exact RetPl.no hp.out H4.out.1
      · have e1 : ((b : Int) == 0) = false := by simp; omega
        by_cases hs : a + b = e
        · have e2 : ((a : Int) + (b : Int) != (e : Int)) = false := by simp; omega
          have he' : Hid (endK l (i + 1) = some a) := by unfold Hid; rw [HE.out, if_pos ⟨hz, hs⟩]
          clear hz hs
          go_wp2_with (go_at_call 63; refine (EN.out _).mono ?_; rintro e w5 ⟨rfl, hb5⟩; have B5 := H4.out.2.below hb5 H4.out.2.lt; have d5 : w5.cell? ⟨g, i * 2, none⟩ = some (.int .i64 (a : Int)) := (B5.cell _).trans HG.out)
          go_roundw
          case rel => exact ⟨i + 1, a, rfl, by go_num, by omega, he'.out, B5, bto0 H4.out.1 hb5⟩
          case measure => simp [intOf]; omega
        · have e2 : ((a : Int) + (b : Int) != (e : Int)) = true := by simp; omega
          have hp : Hid (isPage l = false) := by
            unfold Hid
            rw [HPE.out, hpe.out, endK_none l (i + 1) (by rw [HE.out, if_neg (by omega)]) C (by omega)]
          clear hz hs
          go_wp2_with (go_at_call 63; refine (EN.out _).mono ?_; rintro e w5 ⟨rfl, hb5⟩)
          go_ret2
          exact RetPl.no hp.out (bto0 H4.out.1 hb5)
    · obtain rfl : i = C := by omega
      have hpg : Hid (isPage l = (decide (8 + 4 * i ≤ e) && allZ ((l.drop (8 + 4 * i)).take (e - (8 + 4 * i))))) := by unfold Hid; rw [HPE.out, hpe.out, He.out]
      have hrp : Reads wr wr.heap.size 2 (some ⟨g, 0, none⟩) i (plV l i) := by
        refine ⟨by rw [plV_len], fun _ => ⟨_, rfl, hB1.lt, fun j u hu => ?_⟩⟩
        rw [add_head, hB1.cell]
        have h := plP_end l i
        rw [← h] at hu
        simpa using hu
      have HR := Lib.hid (And.intro hrp hb)
      clear hrp hB1
      by_cases hf : 8 + 4 * i ≤ e
      · have hfI : 8 + (i : Int) * 4 ≤ (e : Int) := by omega
        have nl : ¬ ((e : Int) < 8 + (i : Int) * 4) := by omega
        have nd : decide ((e : Int) < 8 + (i : Int) * 4) = false := decide_eq_false nl
        have heI : (e : Int) ≤ 512 := by omega
        obtain ⟨A', sl, hrd⟩ := cutb_mid (A := A) (n := 512) (c := c) .i64 .i64 (8 + 4 * i) e (8 + (i : Int) * 4) (e : Int) (by omega) rfl hf hel hc
        obtain ⟨L', hL'⟩ : ∃ L', (l.drop (8 + 4 * i)).take (e - (8 + 4 * i)) = L' := ⟨_, rfl⟩
        have CF : Hid (Calls Try.prog 64 #[.slice A' (e - (8 + 4 * i)) (c - (8 + 4 * i)), .func (.func 65) #[] #[]] wr fun e w' => e = .returned (.bool (!(allZ L'))) ∧ wr = w') := by
          have h := hrd wr B l (hr.below (hb.mono hB))
          rw [hL'] at h
          exact contains_any A' _ _ B L' wr h (by omega)
        rw [hL'] at hpg
        have hp2 : Hid (isPage l = allZ L') := by unfold Hid; rw [hpg.out]; simp [hf]
        clear hL' hrd hb hf hpg
        obtain ⟨S1, hS1⟩ : ∃ S1, e - (8 + 4 * i) = S1 := ⟨_, rfl⟩
        obtain ⟨S2, hS2⟩ : ∃ S2, c - (8 + 4 * i) = S2 := ⟨_, rfl⟩
        rw [hS1, hS2] at CF sl
        clear hS1 hS2
        cases hz : allZ L'
        · rw [hz] at CF hp2
          go_wp2_with (first
            | (go_at_call 47; refine (SA.out i (by omega) _).mono ?_; rintro e w' ⟨rfl, rfl⟩)
            | (go_at_call 64; refine CF.out.mono ?_; rintro e w' ⟨rfl, rfl⟩))
          go_ret2
          exact RetPl.no hp2.out HR.out.2
        · rw [hz] at CF hp2
          go_wp2_with (first
            | (go_at_call 47; refine (SA.out i (by omega) _).mono ?_; rintro e w' ⟨rfl, rfl⟩)
            | (go_at_call 64; refine CF.out.mono ?_; rintro e w' ⟨rfl, rfl⟩))
          go_ret2
          exact ⟨some ⟨g, 0, none⟩, i, i, by rw [hp2.out]; rfl, by rw [hp2.out, HC.out]; rfl, HR.out.1, Nat.le_refl _, HR.out.2⟩
      · have hfI : (e : Int) < 8 + (i : Int) * 4 := by omega
        have hp2 : Hid (isPage l = false) := by unfold Hid; rw [hpg.out]; simp [hf]
        clear hf hpg hb
        go_wp2_with (go_at_call 47; refine (SA.out i (by omega) _).mono ?_; rintro e w' ⟨rfl, rfl⟩)
        go_ret2
        exact RetPl.no hp2.out HR.out.2
end
end Go.Proofs.Ytdimkeoncgjegaa
/-
  Slots of a heap page: May, Count, free, room, Room; Clone, record.
-/
namespace Go.Proofs.Ytdimkeoncgjegaa
section
open Go.RowKit

def pE (l : List UInt8) : Nat := (endK l (hdC l)).getD 0
def pC (l : List UInt8) : Nat := if isPage l then hdC l else 0
def pRoom (l : List UInt8) : Nat := if isPage l then pE l - (12 + 4 * hdC l) else 0
theorem page_end {l : List UInt8} (h : isPage l = true) : endK l (hdC l) = some (pE l) ∧ hdC l ≤ 126 ∧ 8 + 4 * hdC l ≤ pE l ∧ pE l ≤ 512 ∧ l.length = 512 := by
  unfold isPage at h
  simp only [Bool.and_eq_true, decide_eq_true_eq] at h
  obtain ⟨h1, h2, h3, h4⟩ := h
  unfold pageEnd at h4
  unfold pE
  rcases he : endK l (hdC l) with _ | e
  · rw [he] at h4; cases h4
  · rw [he] at h4
    simp only [Bool.and_eq_true, decide_eq_true_eq] at h4
    have := endK_le l _ e he
    unfold hdOk at h1
    simp at h1
    exact ⟨rfl, by omega, h4.1, this, h1.1⟩
section
variable {w : World} {A : Option Addr} {n c B : Nat} {l : List UInt8}
theorem Reads.plc {Ap : Option Addr} {m k : Nat} (hr : Reads w B 2 Ap m (plV l m)) (hk : k < m) : ∃ ad, Ap = some ad ∧ ad.block < B ∧ w.cell? (ad.add (k * 2)) = some (.int .i64 (two l (8 + 4 * k) : Nat)) ∧ w.cell? ⟨(ad.add (k * 2)).block, (ad.add (k * 2)).off + 1, none⟩ = some (.int .i64 (two l (8 + 4 * k + 2) : Nat)) := by
  obtain ⟨ad, hA, hb, hc⟩ := hr.2 (by omega)
  have hv : ∀ j, j < 2 → (plV l m)[k * 2 + j]? = (Go.Proofs.Ytdimkeoncgjegaa.plc l k)[j]? := by
    intro j hj
    refine flat_at (Go.Proofs.Ytdimkeoncgjegaa.plc l) 2 (List.range m) k k j (fun _ _ => rfl) ?_ hj
    rw [List.getElem?_range hk]
  refine ⟨ad, hA, hb, ?_, ?_⟩
  · have := hc (k * 2 + 0) _ (by rw [hv 0 (by omega)]; rfl)
    simpa using this
  · rw [field_add _ _ _ (by omega)]
    exact hc (k * 2 + 1) _ (by rw [hv 1 (by omega)]; rfl)
theorem free_any (Ap : Option Addr) (m cp e : Nat) (hr : Reads w B 2 Ap m (plV l m)) (he : endK l m = some e) (hm : m ≤ 126) : Calls Try.prog 46 #[.slice Ap m cp] w fun e' w' => e' = .returned (.int .i64 e) ∧ w = w' := by
  by_cases h0 : m = 0
  · subst h0
    obtain rfl : e = 512 := by injection he with he; exact he.symm
    go_enter Try.func46, Try.ntmps46
    go_wp2
    go_ret
    exact ⟨rfl, rfl⟩
  · obtain ⟨k, rfl⟩ : ∃ k, m = k + 1 := ⟨m - 1, by omega⟩
    obtain ⟨ad, rfl, _, c0, _⟩ := hr.plc (k := k) (by omega)
    have h1 : two l (8 + 4 * k) = e := by
      rw [endK] at he
      rcases hk : endK l k with _ | e'
      · rw [hk] at he; cases he
      · rw [hk, Option.bind_some] at he
        split at he
        · injection he
        · cases he
    rw [h1] at c0
    have e1 : (((k + 1 : Nat) : Int) == 0) = false := by simp; omega
    have g1 : (0 : Int) ≤ (k : Int) := by omega
    have g2 : (k : Int) < ((k + 1 : Nat) : Int) := by omega
    clear he h1 hr h0
    go_enter Try.func46, Try.ntmps46
    go_wp2
    go_ret
    exact ⟨rfl, rfl⟩
theorem room_any (Ap : Option Addr) (m cp e : Nat) (hr : Reads w B 2 Ap m (plV l m)) (he : endK l m = some e) (hm : m ≤ 126) (he5 : e ≤ 512) : Calls Try.prog 43 #[.slice Ap m cp] w fun e' w' => e' = .returned (.int .i64 (e - (12 + 4 * m) : Nat)) ∧ w = w' := by
  have FR := Lib.hid (free_any Ap m cp e hr he hm)
  have SA : Hid (Calls Try.prog 47 #[.int .i64 ((m : Int) + 1)] w fun e w' => e = .returned (.int .i64 (8 + ((m : Int) + 1) * 4)) ∧ w = w') := by
    have h := slotAt_any (m + 1) (by omega) w
    rw [show ((m + 1 : Nat) : Int) = (m : Int) + 1 from by omega] at h
    exact h
  have hmI : (m : Int) ≤ 126 := by omega
  have heI : (e : Int) ≤ 512 := by omega
  clear he hr
  go_enter Try.func43, Try.ntmps43
  go_wp2_with (first
    | (go_at_call 46; refine FR.out.mono ?_; rintro e w' ⟨rfl, rfl⟩)
    | (go_at_call 47; refine SA.out.mono ?_; rintro e w' ⟨rfl, rfl⟩))
  go_ret
  exact ⟨ret_int (by omega), rfl⟩
theorem Room_any (hr : Reads w B 1 A n (bL l)) (hB : B ≤ w.heap.size) (hn : n ≤ 1000000) (hc : n ≤ c) : Calls Try.prog 25 #[.slice A n c] w (RetB w (.int .i64 (pRoom l : Nat))) := by
  have P := Lib.hid (places_any A n c B l w hr hB hn hc)
  have PE := Lib.hid (@page_end l)
  clear hr
  cases hp : isPage l
  · have hq : Hid (pRoom l = 0) := by unfold Hid pRoom; rw [hp]; rfl
    unfold RetPl at P
    rw [hp] at P
    go_enter Try.func25, Try.ntmps25
    go_wp2_with fail
    refine P.out.mono ?_
    rintro e w1 ⟨Ap, m, cp, rfl, hm, hrp, hcp, hb⟩
    clear hm
    go_wp2
    go_ret
    exact ⟨ret_int (by rw [hq.out]; rfl), hb⟩
  · have hq : Hid (pRoom l = pE l - (12 + 4 * hdC l)) := by unfold Hid pRoom; rw [hp]; rfl
    unfold RetPl at P
    rw [hp] at P
    obtain ⟨e1, e2, e3, e4, e5⟩ := PE.out hp
    have HE := Lib.hid (And.intro e1 (And.intro e2 (And.intro e3 e4)))
    clear e1 e2 e3 e4 e5
    go_enter Try.func25, Try.ntmps25
    go_wp2_with fail
    refine P.out.mono ?_
    rintro e w1 ⟨Ap, m, cp, rfl, hm, hrp, hcp, hb⟩
    have hm' : m = hdC l := hm
    clear hm
    subst hm'
    have RM := Lib.hid (room_any Ap (hdC l) cp (pE l) hrp HE.out.1 HE.out.2.1 HE.out.2.2.2)
    clear hrp
    go_wp2_with (go_at_call 43; refine RM.out.mono ?_; rintro e w' ⟨rfl, rfl⟩)
    go_ret
    exact ⟨ret_int (by rw [hq.out]), hb⟩
/-- What Clone leaves. -/
def RetCl (w : World) (l : List UInt8) (e : Ending) (w' : World) : Prop := ∃ A c, e = .returned (.slice A l.length c) ∧ Own w' w.heap.size (.slice A l.length c) l ∧ l.length ≤ c ∧ Below w.heap.size w w'
theorem clone_any (hr : Reads w B 1 A n (bL l)) (hB : B ≤ w.heap.size) (hn : n ≤ 1000000) : Calls Try.prog 45 #[.slice A n c] w (RetCl w l) := by
  have hl := hr.bytes_len
  have nl := fun W => Lib.run_eql_slice_nil (P := Try.prog) W 59 5 A n c 0 0 Try.underlying59
  rcases A with _ | ad
  · have h0 : n = 0 := by
      rcases Nat.eq_zero_or_pos n with h0 | h0
      · exact h0
      · obtain ⟨ad, h, _⟩ := hr.2 h0; cases h
    subst h0
    have : l = [] := List.eq_nil_of_length_eq_zero hl
    subst this
    clear hr
    go_enter Try.func45, Try.ntmps45
    go_wp2
    go_ret
    exact ⟨none, 0, rfl, Own.nil _ _, Nat.le_refl _, Below.refl _ _⟩
  · have own0 := Own.empty w (g := w.heap.size) rfl
    have hr0 := hr.alloc hB (.cells #[] 5)
    have hz0 : w.heap.size ≤ (w.alloc (.cells #[] 5)).heap.size := by simp
    have Hl := Lib.hid hl; clear hl
    clear hr
    go_enter Try.func45, Try.ntmps45
    go_wp2_with (at_builtin; refine wpList_appR rfl _ _ rfl w.heap.size _ [] l (some ad) n c B rfl own0 rfl hr0 (by rw [Hl.out]; simp; omega) hz0 ?_; intro v1 w1 own1 kp1; rw [List.nil_append] at own1; obtain ⟨A1, c1, rfl, hc1⟩ := own1.form)
    have hb1 := kp1.below w.heap.size w (Nat.le_refl _) (ball (Below.refl _ _) _)
    clear own0 hr0 hz0 kp1
    go_ret
    exact ⟨A1, c1, rfl, own1, hc1, hb1⟩
end
end
end Go.Proofs.Ytdimkeoncgjegaa
