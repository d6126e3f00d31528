/-
  Several texts in one: Dk Sa Sb.
-/
import Derived.Test.YtdimkeoncgjegaaMbag
import Derived.Test.YtdimkeoncgjegaaMbad
import Derived.BigQuiet
import Derived.Deep.QuietTactic
import Derived.IntWalk
/-
  Heads of pages: the program's Get.
-/
namespace Go.Proofs.Ytdimkeoncgjegaa
section
open Go.RowKit

def hdOk (l : List UInt8) : Bool := l.length == 512 && l[1]? == some 0
def hdK (l : List UInt8) : Nat := (l.getD 0 0).toNat
def hdC (l : List UInt8) : Nat := beVal ((l.drop 2).take 2)
def hdN (l : List UInt8) : Nat := beVal ((l.drop 4).take 4)
def hdV (l : List UInt8) : Value := if hdOk l then .agg #[.int .u8 (hdK l : Int), .int .u16 (hdC l : Int), .int .u32 (hdN l : Int)] else .agg #[.int .u8 0, .int .u16 0, .int .u32 0]
def RetHd (w : World) (l : List UInt8) (e : Ending) (w' : World) : Prop := e = .returned (.tuple #[hdV l, .bool (hdOk l)]) ∧ Below w.heap.size w w'
theorem hdC_eq {l : List UInt8} {x y : UInt8} (h2 : l[2]? = some x) (h3 : l[3]? = some y) : hdC l = 256 * x.toNat + y.toNat := by
  unfold hdC
  have e : (l.drop 2).take 2 = [x, y] := by
    have hl := lt_of_at h3
    rw [List.drop_eq_getElem_cons (by omega), List.drop_eq_getElem_cons (by omega)]
    rw [List.getElem?_eq_getElem (by omega)] at h2 h3
    injection h2 with h2; injection h3 with h3
    simp [h2, h3]
  rw [e]
  simp [beVal]
theorem hdN_take {l : List UInt8} {j : Nat} {b : UInt8} (h : l[4 + j]? = some b) : beVal ((l.drop 4).take (j + 1)) = 256 * beVal ((l.drop 4).take j) + b.toNat :=
  beVal_take (by rw [List.getElem?_drop]; exact h)

set_option maxRecDepth 100000 in
set_option maxHeartbeats 2000000 in
theorem dget_any (A : Option Addr) (n c B : Nat) (l : List UInt8) (w : World) (hr : Reads w B 1 A n (bL l)) (hB : B ≤ w.heap.size) (hn : n ≤ 1000000000) :
    Calls Try.prog 59 #[.slice A n c] w (RetHd w l) := by
  have hl := hr.bytes_len
  by_cases h5 : n = 512
  rotate_left
  · have ho : hdOk l = false := by unfold hdOk; rw [hl]; simp [h5]
    have hv : hdV l = .agg #[.int .u8 0, .int .u16 0, .int .u32 0] := by unfold hdV; rw [ho]; rfl
    have HH := Lib.hid (And.intro ho hv)
    have e1 : (n == 512) = false := by simpa using h5
    have e2 : ((n : Int) == 512) = false := by simp; omega
    have e3 : (n != 512) = true := by simpa using h5
    have e4 : ((n : Int) != 512) = true := by simp; omega
    clear ho hv hr hl h5
    go_enter Try.func59, Try.ntmps59
    go_wp2
    exact bodyPost_ret (v := .tuple #[.agg #[.int .u8 0, .int .u16 0, .int .u32 0], .bool false]) (by simp [results, Try.results59, go_sem]) rfl ⟨by rw [HH.out.1, HH.out.2], ball (Below.refl _ _) _⟩
  · subst h5
    obtain ⟨ad, x1, rfl, hb, hx1, c1⟩ := hr.byte (k := 1) (by omega)
    have hby : ∀ i, i < 512 → ∃ b, l[i]? = some b ∧ w.cell? (ad.add i) = some (.int .u8 (b.toNat : Int)) := by
      intro i hi
      obtain ⟨ad', b, e, _, h1, h2⟩ := hr.byte (k := i) hi
      injection e with e
      subst e
      exact ⟨b, h1, h2⟩
    have da : ∀ i o, i < 512 → (w.alloc o).cell? (ad.add i) = w.cell? (ad.add i) := fun i o _ => World.cell?_alloc_lt w o _ (by rw [block_of_add]; omega)
    have d1 : ∀ o, (w.alloc o).cell? ⟨ad.block, ad.off + 1, none⟩ = some (.int .u8 (x1.toNat : Int)) := fun o => (da 1 o (by omega)).trans c1
    by_cases hz : x1 = 0
    rotate_left
    · have hz' : ¬ x1.toNat = 0 := fun e => hz (UInt8.toNat_inj.1 e)
      have ho : hdOk l = false := by unfold hdOk; rw [hx1]; simp [hz]
      have hv : hdV l = .agg #[.int .u8 0, .int .u16 0, .int .u32 0] := by unfold hdV; rw [ho]; rfl
      have HH := Lib.hid (And.intro ho hv)
      have e1 : (x1.toNat == 0) = false := by simpa using hz'
      have e2 : ((x1.toNat : Int) == 0) = false := by simp; omega
      have e3 : (x1.toNat != 0) = true := by simpa using hz'
      have e4 : ((x1.toNat : Int) != 0) = true := by simp; omega
      clear ho hv hr hl hby da c1 hx1 hz hz'
      go_enter Try.func59, Try.ntmps59
      go_wp2
      exact bodyPost_ret (v := .tuple #[.agg #[.int .u8 0, .int .u16 0, .int .u32 0], .bool false]) (by simp [results, Try.results59, go_sem]) rfl ⟨by rw [HH.out.1, HH.out.2], ball (Below.refl _ _) _⟩
    · subst hz
      have ho : hdOk l = true := by unfold hdOk; rw [hl, hx1]; rfl
      obtain ⟨x0, h0, c0⟩ := hby 0 (by omega)
      obtain ⟨x2, h2, c2⟩ := hby 2 (by omega)
      obtain ⟨x3, h3, c3⟩ := hby 3 (by omega)
      have hK : hdK l = x0.toNat := by unfold hdK; rw [List.getD_eq_getElem?_getD, h0]; rfl
      have hC := hdC_eq h2 h3
      have hv : hdV l = .agg #[.int .u8 (x0.toNat : Int), .int .u16 ((256 * x2.toNat + x3.toNat : Nat) : Int), .int .u32 (hdN l : Int)] := by unfold hdV; rw [ho, if_pos rfl, hK, hC]
      have HH := Lib.hid (And.intro ho hv)
      have d0 : ∀ o, (w.alloc o).cell? ad = some (.int .u8 (x0.toNat : Int)) := fun o => by have := (da 0 o (by omega)).trans c0; simpa [Addr.add] using this
      have d2 : ∀ o, (w.alloc o).cell? ⟨ad.block, ad.off + 2, none⟩ = some (.int .u8 (x2.toNat : Int)) := fun o => (da 2 o (by omega)).trans c2
      have d3 : ∀ o, (w.alloc o).cell? ⟨ad.block, ad.off + 3, none⟩ = some (.int .u8 (x3.toNat : Int)) := fun o => (da 3 o (by omega)).trans c3
      have dd : ∀ (p : Addr) v, (∀ o, (w.alloc o).cell? p = some v) → p.block < w.heap.size → ∀ o o', ((w.alloc o).alloc o').cell? p = some v := fun p v h hp o o' => (World.cell?_alloc_lt _ o' p (by simp; omega)).trans (h o)
      have d0' := dd _ _ d0 (by omega)
      have d2' := dd _ _ d2 (by show ad.block < _; omega)
      have d3' := dd _ _ d3 (by show ad.block < _; omega)
      clear dd
      have o16 := or_u16 x2 x3
      obtain ⟨C, hC'⟩ : ∃ C : Nat, 256 * x2.toNat + x3.toNat = C := ⟨_, rfl⟩
      rw [hC'] at o16 HH
      clear hC'
      have b3 : (x3.toNat : Int) ≤ 255 := by have := x3.toNat_lt; omega
      have b2 : (x2.toNat : Int) ≤ 255 := by have := x2.toNat_lt; omega
      have HY := Lib.hid hby
      clear ho hv hby h0 h2 h3 c0 c1 c2 c3 hK hC da hx1
      go_enter Try.func59, Try.ntmps59
      go_wp2
      go_region
      go_wp2
      have XR := ((Blk.new w 109 #[.int .u8 0, .int .u16 0, .int .u32 0]).alloc (.cells #[.int .u8 (x0.toNat : Int), .int .u16 (C : Int), .int .u32 0] 109)).drew
      have XH : Blk ((w.alloc (.cells #[.int .u8 0, .int .u16 0, .int .u32 0] 109)).alloc (.cells #[.int .u8 (x0.toNat : Int), .int .u16 (C : Int), .int .u32 0] 109)).drew (w.heap.size + 1) 109 #[.int .u8 (x0.toNat : Int), .int .u16 (C : Int), .int .u32 0] := (Blk.newAt (by simp)).drew
      have hbw : Below w.heap.size w ((w.alloc (.cells #[.int .u8 0, .int .u16 0, .int .u32 0] 109)).alloc (.cells #[.int .u8 (x0.toNat : Int), .int .u16 (C : Int), .int .u32 0] 109)).drew := (ball (ball (Below.refl _ _) _) _).drew
      obtain ⟨W0, hW0⟩ : ∃ W0, ((w.alloc (.cells #[.int .u8 0, .int .u16 0, .int .u32 0] 109)).alloc (.cells #[.int .u8 (x0.toNat : Int), .int .u16 (C : Int), .int .u32 0] 109)).drew = W0 := ⟨_, rfl⟩
      rw [hW0] at XR XH hbw ⊢
      clear hW0 d0 d2 d3 d0' d2' d3' o16 d1 b2 b3
      go_loopw [30] (fun iv wr => ∃ j : Nat, j ≤ 4 ∧ iv = .int .i64 j ∧ Blk wr (w.heap.size + 1) 109 #[.int .u8 (x0.toNat : Int), .int .u16 (C : Int), .int .u32 ((beVal ((l.drop 4).take j) : Nat) : Int)] ∧ Blk wr w.heap.size 109 #[.int .u8 0, .int .u16 0, .int .u32 0] ∧ Below w.heap.size w wr) (fun iv _ => 4 - (intOf iv).toNat)
      case atStart => exact ⟨0, by omega, rfl, XH, XR, hbw⟩
      case round =>
        clear XH XR hbw
        obtain ⟨j, hj, rfl, hX, hR, hbr⟩ := hrel
        have q0 : (0 : Int) ≤ (j : Int) := by omega
        by_cases hlt : j < 4
        · have q1 : (j : Int) < 4 := by omega
          obtain ⟨b, hb4, cb⟩ := HY.out (4 + j) (by omega)
          have hN := Lib.hid (hdN_take hb4)
          have cb' : wr.cell? (ad.add (4 + j)) = some (.int .u8 (b.toNat : Int)) := (hbr.cell (p := ad.add (4 + j)) (by rw [block_of_add]; omega)).trans cb
          have hU := beVal_lt_of (l := (l.drop 4).take j) (n := 3) (by rw [List.length_take]; omega)
          have hor := Lib.hid (or_u32 (beVal ((l.drop 4).take j)) b (by omega))
          obtain ⟨U, hUe⟩ : ∃ U, beVal ((l.drop 4).take j) = U := ⟨_, rfl⟩
          rw [hUe] at hX hN hor hU
          have c2 := hX.cell 2
          have f2 := hX.frozen 2
          have xb : (b.toNat : Int) ≤ 255 := by have := b.toNat_lt; omega
          have xb0 : (0 : Int) ≤ (b.toNat : Int) := by omega
          have HX := Lib.hid hX
          have hs4 := Lib.hid (hX.set_ 2 (.int .u32 (bits .or .u32 (IntKind.u32.wrap ((U : Int) * 256)) (b.toNat : Int)))).drew
          clear hb4 cb hU hUe hX
          go_wp2
          go_region
          go_wp2
          go_roundw
          case rel => exact ⟨j + 1, by omega, by go_num, by rw [hN.out, ← hor.out]; exact hs4.out, (hR.far (by simp) _).drew, (hbr.setCell (by simp) _).drew⟩
          case measure => simp [intOf]; omega
        · obtain rfl : j = 4 := by omega
          have c0 := hX.cell 0; have c1 := hX.cell 1; have c2 := hX.cell 2
          have r0 := hR.cell 0; have r1 := hR.cell 1; have r2 := hR.cell 2
          have f0 := hR.frozen 0; have f1 := hR.frozen 1; have f2 := hR.frozen 2
          have HU : Hid (hdN l = beVal ((l.drop 4).take 4)) := Lib.hid rfl
          go_wp2
          exact bodyPost_ret (v := .tuple #[.agg #[.int .u8 (x0.toNat : Int), .int .u16 (C : Int), .int .u32 ((beVal ((l.drop 4).take 4) : Nat) : Int)], .bool true]) (by simp [results, Try.results59, go_sem, r0, r1, r2]) rfl ⟨by rw [HH.out.1, HH.out.2, HU.out], by repeat (first | exact hbr | refine Below.setCell ?_ (show w.heap.size ≤ w.heap.size from Nat.le_refl _) _)⟩
end
end Go.Proofs.Ytdimkeoncgjegaa
/-
  Slots of a heap page: numbers of two bytes, where a slot stands; the library's ContainsFunc, Clone.
-/
namespace Go.Proofs.Ytdimkeoncgjegaa
section
open Go.RowKit

/-- A number of two bytes that stands somewhere. -/
def two (l : List UInt8) (i : Nat) : Nat := 256 * (l.getD i 0).toNat + (l.getD (i + 1) 0).toNat
theorem two_lt (l : List UInt8) (i : Nat) : two l i < 65536 := by
  unfold two
  have := (l.getD i 0).toNat_lt
  have := (l.getD (i + 1) 0).toNat_lt
  omega
theorem or_i64 (x b : UInt8) : bits .or .i64 ((x.toNat : Int) * 256) (b.toNat : Int) = ((256 * x.toNat + b.toNat : Nat) : Int) := by
  have hb := b.toNat_lt
  have hx := x.toNat_lt
  have h1 : (x.toNat : Int) * 256 = ((256 * x.toNat : Nat) : Int) := by omega
  rw [h1]
  show IntKind.i64.wrap ((BitVec.ofInt 64 ((256 * x.toNat : Nat) : Int) ||| BitVec.ofInt 64 (b.toNat : Int)).toNat : Int) = _
  have e1 : (BitVec.ofInt 64 ((256 * x.toNat : Nat) : Int)).toNat = 256 * x.toNat := by rw [BitVec.toNat_ofInt]; omega
  have e2 : (BitVec.ofInt 64 (b.toNat : Int)).toNat = b.toNat := by rw [BitVec.toNat_ofInt]; omega
  rw [BitVec.toNat_or, e1, e2, or_nat]
  simp [IntKind.wrap, IntKind.bits, IntKind.signed]; omega
theorem slotAt_any (k : Nat) (hk : k ≤ 1000000) (w : World) : Calls Try.prog 47 #[.int .i64 k] w fun e w' => e = .returned (.int .i64 (8 + (k : Int) * 4)) ∧ w = w' := by
  have h0 : (0 : Int) ≤ (k : Int) := by omega
  have h1 : (k : Int) ≤ 1000000 := by omega
  go_enter Try.func47, Try.ntmps47
  go_wp2
  go_ret
  exact ⟨rfl, rfl⟩
set_option maxRecDepth 100000 in
theorem two_any (A : Option Addr) (n c B : Nat) (l : List UInt8) (i : Nat) (w : World) (hr : Reads w B 1 A n (bL l)) (hi : i + 1 < n) (hn : n ≤ 1000000) :
    Calls Try.prog 62 #[.slice A n c, .int .i64 i] w (RetB w (.int .i64 (two l i : Nat))) := by
  obtain ⟨ad, x, rfl, hb, hx, c0⟩ := hr.byte (k := i) (by omega)
  obtain ⟨ad', y, e, _, hy, c1⟩ := hr.byte (k := i + 1) (by omega)
  injection e with e
  subst e
  have ht : two l i = 256 * x.toNat + y.toNat := by unfold two; rw [List.getD_eq_getElem?_getD, List.getD_eq_getElem?_getD, hx, hy]; rfl
  have ho := or_i64 x y
  rw [← ht] at ho
  obtain ⟨V, hV⟩ : ∃ V, two l i = V := ⟨_, rfl⟩
  rw [hV] at ho ⊢
  have b3 : (x.toNat : Int) ≤ 255 := by have := x.toNat_lt; omega
  have b2 : (y.toNat : Int) ≤ 255 := by have := y.toNat_lt; omega
  have g0 : (0 : Int) ≤ (i : Int) := by omega
  have g1 : (i : Int) < (n : Int) := by omega
  have g2 : (i : Int) + 1 < (n : Int) := by omega
  have g3 : (n : Int) ≤ 1000000 := by omega
  have ea : ad.add (i + 1) = ⟨ad.block, ad.off + (i + 1), none⟩ := by unfold Addr.add; simp
  rw [ea] at c1
  have g4 : (0 : Int) ≤ (i : Int) + 1 := by omega
  clear ea
  have wr1 : IntKind.i64.wrap ((i : Int) + 1) = (i : Int) + 1 := IntWalk.i64_in _ (by omega)
  clear ht hV hx hy hr
  go_enter Try.func62, Try.ntmps62
  go_wp2_with fail
  go_region
  go_wp2
  go_ret
  exact ⟨rfl, (Below.refl _ _).drew⟩
end
end Go.Proofs.Ytdimkeoncgjegaa
/-
  Slots of a heap page: the library's ContainsFunc over bytes that are not 0.
-/
namespace Go.Proofs.Ytdimkeoncgjegaa
section
open Go.RowKit

theorem end_any (a b : Nat) (ha : a ≤ 1000000) (hb : b ≤ 1000000) (w : World) : Calls Try.prog 63 #[.agg #[.int .i64 a, .int .i64 b]] w (RetB w (.int .i64 ((a : Int) + (b : Int)))) := by
  have h0 : (0 : Int) ≤ (a : Int) := by omega
  have h1 : (a : Int) ≤ 1000000 := by omega
  have h2 : (0 : Int) ≤ (b : Int) := by omega
  have h3 : (b : Int) ≤ 1000000 := by omega
  go_enter Try.func63, Try.ntmps63
  go_wp2
  go_ret
  exact ⟨rfl, ball (Below.refl _ _) _⟩
theorem nz_any (x : Int) (w : World) : Calls Try.prog 65 #[.int .u8 x] w fun e w' => e = .returned (.bool (x != 0)) ∧ w = w' := by
  go_enter Try.func65, Try.ntmps65
  go_wp2
  go_ret
  exact ⟨rfl, rfl⟩
/-- All bytes are 0. -/
def allZ (l : List UInt8) : Bool := l.all (· == 0)
theorem allZ_take {l : List UInt8} {k : Nat} {x : UInt8} (h : l[k]? = some x) : allZ (l.take (k + 1)) = (allZ (l.take k) && (x == 0)) := by
  unfold allZ
  rw [List.take_add_one, h]; simp
theorem allZ_false {l : List UInt8} {k : Nat} {x : UInt8} (h : l[k]? = some x) (hx : x ≠ 0) : allZ l = false := by
  unfold allZ
  rw [List.all_eq_false]
  exact ⟨x, List.mem_of_getElem? h, by simpa using hx⟩
set_option maxRecDepth 100000 in
theorem index_any (A : Option Addr) (n c B : Nat) (l : List UInt8) (w : World) (hr : Reads w B 1 A n (bL l)) (hn : n ≤ 1000000) :
    Calls Try.prog 76 #[.slice A n c, .func (.func 65) #[] #[]] w fun e w' => ∃ r : Int, e = .returned (.int .i64 r) ∧ w = w' ∧ decide (0 ≤ r) = !(allZ l) := by
  have hnI : (n : Int) ≤ 1000000 := by omega
  have hl := hr.bytes_len
  have Hl := Lib.hid hl; clear hl
  go_enter Try.func76, Try.ntmps76
  go_wp2_with fail
  go_loop [8] (fun v => ∃ k : Nat, v = .int .i64 k ∧ k ≤ n ∧ allZ (l.take k) = true) (fun v => n - (intOf v).toNat)
  case atStart => exact ⟨0, rfl, by omega, rfl⟩
  case round =>
    obtain ⟨k, rfl, hk, hz⟩ := hrel
    have g1 : (0 : Int) ≤ (k : Int) := by omega
    have Hz := Lib.hid hz; clear hz
    by_cases hki : k < n
    · have g2 : (k : Int) < (n : Int) := by omega
      obtain ⟨ad, x, rfl, _, hx, d1⟩ := hr.byte hki
      have Hx := Lib.hid hx; clear hx
      by_cases hx0 : x = 0
      · have e1 : ((x.toNat : Int) != 0) = false := by subst hx0; rfl
        have Hx0 := Lib.hid hx0; clear hx0
        go_wp2_with (go_at_call 65; refine (nz_any _ _).mono ?_; rintro e w' ⟨rfl, rfl⟩)
        go_round
        case rel => exact ⟨k + 1, by go_num, by omega, by rw [allZ_take Hx.out, Hz.out, Hx0.out]; rfl⟩
        case measure => simp [intOf]; omega
      · have e1 : ((x.toNat : Int) != 0) = true := by
          have : ¬ x.toNat = 0 := fun e => hx0 (UInt8.toNat_inj.1 e)
          simp; omega
        have Hx0 := Lib.hid hx0; clear hx0
        go_wp2_with (go_at_call 65; refine (nz_any _ _).mono ?_; rintro e w' ⟨rfl, rfl⟩)
        go_ret
        exact ⟨(k : Int), rfl, rfl, by rw [allZ_false Hx.out Hx0.out]; simp⟩
    · obtain rfl : n = k := by omega
      have e1 : l.take n = l := List.take_of_length_le (by rw [Hl.out]; exact Nat.le_refl _)
      have h2 := Hz.out
      rw [e1] at h2
      have H2 := Lib.hid h2; clear h2 e1
      go_wp2
      go_ret
      exact ⟨-1, rfl, rfl, by rw [H2.out]; rfl⟩
theorem contains_any (A : Option Addr) (n c B : Nat) (l : List UInt8) (w : World) (hr : Reads w B 1 A n (bL l)) (hn : n ≤ 1000000) :
    Calls Try.prog 64 #[.slice A n c, .func (.func 65) #[] #[]] w fun e w' => e = .returned (.bool (!(allZ l))) ∧ w = w' := by
  have I := Lib.hid (index_any A n c B l w hr hn)
  clear hr
  go_enter Try.func64, Try.ntmps64
  go_wp2_with fail
  refine I.out.mono ?_
  rintro e w' ⟨r, rfl, rfl, hq⟩
  have Hq := Lib.hid hq; clear hq
  go_wp2
  go_ret
  exact ⟨ret_bool (by rw [← Hq.out]), rfl⟩
end
end Go.Proofs.Ytdimkeoncgjegaa
