/-
  Yp Yq Yr Yt Yu Yv Ze Zf Zb Zc Yw Yy.
-/
import Derived.Test.YtebobcbaloddaaaGreatMobe
import Derived.Test.YtebobcbaloddaaaGreatMoah
import Derived.Test.YtebobcbaloddaaaGreatMoab
import Derived.Test.YtebobcbaloddaaaGreatMobb
import Derived.Test.YtebobcbaloddaaaGreatMoag
import Derived.Deep.QuietTactic
import Derived.IntWalk
import Derived.RegionTactic
import Derived.KernelRfl
namespace Go.Proofs.YtebobcbaloddaaaGreat
section
set_option linter.unusedSimpArgs false
set_option linter.unusedVariables false
open Go.RowKit
theorem but_trans {a b c : World} {g : Nat} (h : a.grownBy b (some g)) (k : b.grownBy c (some g)) : a.grownBy c (some g) :=
 ⟨k.os.trans h.os, k.tape.trans h.tape, k.output.trans h.output, Nat.le_trans h.size k.size, fun i hi hne => (k.block i (Nat.lt_of_lt_of_le hi h.size) hne).trans (h.block i hi hne)⟩
theorem but_below {a b : World} {g : Nat} (h : Below a.heap.size a b) : a.grownBy b (some g) := ⟨h.os, h.tape, h.output, h.size, fun i hi _ => h.block i hi⟩
theorem but_set (w : World) (g i : Nat) (u : Value) : w.grownBy (w.setCell ⟨g, i, none⟩ u) (some g) := by
 have h := (Below.refl 0 w).setCell (p := ⟨g, i, none⟩) (Nat.zero_le _) u
 refine ⟨h.os, h.tape, h.output, h.size, fun k _ hne => ?_⟩
 exact Below.heap_setCell _ _ _ _ (fun e => hne (by rw [e]))
theorem cell_but {a b : World} {g : Nat} (h : a.grownBy b (some g)) {p : Addr} {v : Value} (hp : a.cell? p = some v) (hne : p.block ≠ g) : b.cell? p = some v := by
 have hb := h.block p.block (cell_block hp) (by simpa using hne)
 unfold World.cell? at hp ⊢
 rw [hb]
 exact hp
end
end Go.Proofs.YtebobcbaloddaaaGreat
namespace Go.Proofs.YtebobcbaloddaaaGreat
section
set_option linter.unusedSimpArgs false
set_option linter.unusedVariables false
open Go.RowKit
theorem but_alloc (w : World) (g : Nat) (o : Obj) : w.grownBy (w.alloc o) (some g) := but_below ((Below.refl _ _).alloc (Nat.le_refl _) o)
theorem reads_but {w w' : World} {g B sz n : Nat} {A : Option Addr} {xs : List Value} (h : w.grownBy w' (some g)) (hr : Reads w B sz A n xs) (hB : B ≤ g) : Reads w' B sz A n xs := by
 refine ⟨hr.1, fun hn => ?_⟩
 obtain ⟨ad, e, hb, hc⟩ := hr.2 hn
 exact ⟨ad, e, hb, fun j u hj => cell_but h (hc j u hj) (by rw [block_of_add]; omega)⟩
def Rd (w : World) (g B : Nat) (r : List UInt8) (sh : Bool) : Prop := ∃ A m c, Blk w g 201 #[.slice A m c, .bool sh] ∧ Reads w B 1 A m (bL r) ∧ m ≤ c ∧ B ≤ g
theorem Rd.but {w w' : World} {g g' B : Nat} {r : List UInt8} {sh : Bool} (h : Rd w g B r sh) (hb : w.grownBy w' (some g')) (hne : g ≠ g') (hB : B ≤ g') : Rd w' g B r sh := by
 obtain ⟨A, m, c, h1, h2, h3, h4⟩ := h
 exact ⟨A, m, c, h1.grown hb (by simpa using hne), reads_but hb h2 hB, h3, h4⟩
def tk (r : List UInt8) (k : Nat) : List UInt8 := if r.length < k then List.replicate k 0 else r.take k
def dr (r : List UInt8) (k : Nat) : List UInt8 := if r.length < k then [] else r.drop k
theorem tk_len (r : List UInt8) (k : Nat) : (tk r k).length = k := by
 unfold tk; split
 · simp
 · rw [List.length_take]; omega
def RetTk11 (w : World) (g B : Nat) (r : List UInt8) (sh : Bool) (k : Nat) (e : Ending) (w' : World) : Prop :=
 ∃ A' c', e = .returned (.slice A' k c') ∧ k ≤ c' ∧ Reads w' w'.heap.size 1 A' k (bL (tk r k)) ∧ Rd w' g B (dr r k) (sh || decide (r.length < k)) ∧ w.grownBy w' (some g)
theorem zeros_cells (k : Nat) : madeCells #[.int .u8 0] k = bV (List.replicate k 0) := by
 apply Array.ext
 · simp [bV_size, size_madeCells]
 · intro j h1 h2
   have hj : j < k := by simpa [size_madeCells] using h1
   have : (bV (List.replicate k 0))[j]? = some (.int .u8 ((0 : UInt8).toNat : Int)) := bV_at (by simp [hj])
   rw [Array.getElem?_eq_getElem h2] at this
   rw [Option.some.inj this]
   simp [madeCells, Nat.mod_one]
set_option maxHeartbeats 2000000 in
theorem take_any (g B : Nat) (r : List UInt8) (sh : Bool) (k : Nat) (w : World) (h : Rd w g B r sh) (hk : k ≤ 100000) :
 Calls Tryz.prog 121 #[.pointer (some ⟨g, 0, none⟩), .int .i64 k] w (RetTk11 w g B r sh k) := by
 obtain ⟨A, m, c, hX, hr, hmc, hB⟩ := h
 have hl := hr.bytes_len
 have c0 : w.cell? ⟨g, 0, none⟩ = some (.slice A m c) := hX.cell 0
 have c1 : w.cell? ⟨g, 1, none⟩ = some (.bool sh) := hX.cell 1
 have f0 := hX.frozen 0
 have f1 := hX.frozen 1
 have k0 : (0 : Int) ≤ (k : Int) := by omega
 by_cases hs : m < k
 · obtain ⟨i0, hi0, hz0, hs0, hy0⟩ := int_info8 Tryz.infoB
   have mk0 : ∀ W, (Instr.makeSlice 58 (.int .i64 (k : Int)) (.int .i64 (k : Int))).run Tryz.prog W = .ok (.slice (some ⟨W.heap.size, 0, none⟩) k k) (W.alloc (.cells (bV (List.replicate k 0)) 5)) := by
    intro W
    have h := run_make (P := Tryz.prog) W 58 5 i0 (.int .u8 0) Tryz.underlying58 hi0 hz0 .i64 .i64 k k (by omega) (by omega) (by rw [hy0]; omega) (by omega)
    rw [hs0] at h
    rw [← zeros_cells k]
    simp only [Int.toNat_natCast, Nat.mul_one] at h
    exact h
   clear hi0 hz0 hs0 hy0
   have hsI : (m : Int) < (k : Int) := by omega
   have h1 := but_set w g 1 (.bool true)
   have h2 := but_set (w.setCell ⟨g, 1, none⟩ (.bool true)) g 0 (.slice none 0 0)
   have h3 := but_alloc ((w.setCell ⟨g, 1, none⟩ (.bool true)).setCell ⟨g, 0, none⟩ (.slice none 0 0)) g (.cells (bV (List.replicate k 0)) 5)
   have HB := Lib.hid (but_trans (but_trans h1 h2) h3)
   have X3 := Lib.hid (((hX.set_ 1 (.bool true)).set_ 0 (.slice none 0 0)).alloc (.cells (bV (List.replicate k 0)) 5))
   have hgl := hX.lt
   have htk : tk r k = List.replicate k 0 := by unfold tk; rw [if_pos (by omega)]
   have hdr : dr r k = [] := by unfold dr; rw [if_pos (by omega)]
   have hd : decide (r.length < k) = true := by simp; omega
   have HT := Lib.hid (And.intro htk (And.intro hdr hd))
   have hRr : Hid (∀ W : World, Reads (W.alloc (.cells (bV (List.replicate k 0)) 5)) (W.alloc (.cells (bV (List.replicate k 0)) 5)).heap.size 1 (some ⟨W.heap.size, 0, none⟩) k (bL (List.replicate k 0))) := Lib.hid fun W => (reads_new W (bV (List.replicate k 0)) 5 (by rw [bV_toList]) (by rw [bL_len]; simp)).more (by simp)
   clear h1 h2 h3 htk hdr hd hr
   go_enter Tryz.func121, Tryz.ntmps121
   go_wp2
   go_ret
   exact ⟨_, _, rfl, Nat.le_refl _, by rw [HT.out.1]; simpa using hRr.out ((w.setCell ⟨g, 1, none⟩ (.bool true)).setCell ⟨g, 0, none⟩ (.slice none 0 0)), by rw [HT.out.2.1, HT.out.2.2, Bool.or_true]; exact ⟨none, 0, 0, X3.out, Reads.none_, Nat.le_refl _, hB⟩, HB.out⟩
 · have hs' : k ≤ m := by omega
   have hsI : (k : Int) ≤ (m : Int) := by omega
   obtain ⟨A1, hc1, hr1⟩ := cutb_hi (A := A) (n := m) (c := c) .i64 k (k : Int) rfl hs' hmc
   obtain ⟨A2, hc2, hr2⟩ := cutb_lo (A := A) (n := m) (c := c) .i64 k (k : Int) rfl hs' hmc
   have htk : tk r k = r.take k := by unfold tk; rw [if_neg (by omega)]
   have hdr : dr r k = r.drop k := by unfold dr; rw [if_neg (by omega)]
   have hd : decide (r.length < k) = false := by simp; omega
   have HT := Lib.hid (And.intro htk (And.intro hdr hd))
   have HR := Lib.hid (And.intro (hr1 w B r hr) (hr2 w B r hr))
   have HX := Lib.hid hX
   clear hr1 hr2 htk hdr hd
   go_enter Tryz.func121, Tryz.ntmps121
   go_wp2
   go_ret
   exact ⟨A1, c, rfl, by omega, by rw [HT.out.1]; exact (reads_but (but_set _ _ _ _) HR.out.1 hB).more (by have := HX.out.lt; simp [World.setCell]; omega), by rw [HT.out.2.1, HT.out.2.2, Bool.or_false]; exact ⟨A2, m - k, c - k, HX.out.set_ 0 _, reads_but (but_set _ _ _ _) HR.out.2 hB, by omega, hB⟩, but_set _ _ _ _⟩
end
end Go.Proofs.YtebobcbaloddaaaGreat
namespace Go.Proofs.YtebobcbaloddaaaGreat
section
set_option linter.unusedSimpArgs false
set_option linter.unusedVariables false
open Go.RowKit
def RetNm (w : World) (g B : Nat) (r : List UInt8) (sh : Bool) (k : Nat) (e : Ending) (w' : World) : Prop :=
 e = .returned (.int .u32 (beVal (tk r k) : Int)) ∧ Rd w' g B (dr r k) (sh || decide (r.length < k)) ∧ w.grownBy w' (some g)
set_option maxHeartbeats 2000000 in
theorem number_any (g B : Nat) (r : List UInt8) (sh : Bool) (k : Nat) (w : World) (h : Rd w g B r sh) (hk : k ≤ 4) :
 Calls Tryz.prog 112 #[.pointer (some ⟨g, 0, none⟩), .int .i64 k] w (RetNm w g B r sh k) := by
 have T := Lib.hid (take_any g B r sh k w h (by omega))
 have hlen := tk_len r k
 unfold RetNm
 unfold RetTk11 at T
 generalize tk r k = L at *
 generalize dr r k = D at *
 generalize (sh || decide (r.length < k)) = sh' at *
 have HL := Lib.hid hlen; clear hlen h
 have hkI : (k : Int) ≤ 4 := by omega
 have hk0 : (0 : Int) ≤ (k : Int) := by omega
 go_enter Tryz.func112, Tryz.ntmps112
 go_wp2_with fail
 refine T.out.mono ?_
 rintro e w1 ⟨A, c, rfl, hc, hr, hrd, hbt⟩
 have HRd := Lib.hid (And.intro hrd hbt)
 clear hrd hbt
 go_wp2
 go_loop [5, 12] (fun uv iv => ∃ j : Nat, j ≤ k ∧ iv = .int .i64 j ∧ uv = .int .u32 ((beVal (L.take j) : Nat) : Int)) (fun _ iv => k - (intOf iv).toNat)
 case atStart => exact ⟨0, by omega, rfl, rfl⟩
 case round =>
  obtain ⟨j, hj, rfl, rfl⟩ := hrel
  have q0 : (0 : Int) ≤ (j : Int) := by omega
  by_cases hlt : j < k
  · have q1 : (j : Int) < (k : Int) := by omega
    obtain ⟨ad, b, rfl, _, hb, cb⟩ := hr.byte hlt
    have hbt := Lib.hid (beVal_take hb)
    have hlt2 : beVal (L.take j) < 16777216 := by
     have h1 := beVal_lt_of (l := L.take j) (n := 3) (by rw [List.length_take]; omega)
     omega
    have hor := or_u32 (beVal (L.take j)) b hlt2
    rw [← hbt.out] at hor
    clear hlt2 hb hbt
    obtain ⟨U, hU⟩ : ∃ U, beVal (L.take j) = U := ⟨_, rfl⟩
    rw [hU] at hor ⊢
    clear hU
    have HOR := Lib.hid hor; clear hor
    have xb : (b.toNat : Int) ≤ 255 := by have := b.toNat_lt; omega
    have xb0 : (0 : Int) ≤ (b.toNat : Int) := by omega
    go_wp2
    go_round
    case rel => exact ⟨j + 1, by omega, by go_num, val_int HOR.out⟩
    case measure => simp [intOf]; omega
  · obtain rfl : j = k := by omega
    have hT : Hid (beVal (L.take j) = beVal L) := Lib.hid (by rw [List.take_of_length_le (by rw [HL.out]; exact Nat.le_refl _)])
    go_wp2
    go_ret
    exact ⟨by rw [hT.out]; rfl, HRd.out.1, HRd.out.2⟩
theorem but_far {w a : World} {g : Nat} (h : w.grownBy a (some g)) {p : Addr} (hp : w.heap.size ≤ p.block) (u : Value) : w.grownBy (a.setCell p u) (some g) := by
 have k := (Below.refl 0 a).setCell (p := p) (Nat.zero_le _) u
 exact ⟨k.os.trans h.os, k.tape.trans h.tape, k.output.trans h.output, Nat.le_trans h.size k.size, fun i hi hne => (Below.heap_setCell _ _ _ _ (by omega)).trans (h.block i hi hne)⟩
theorem Rd.far {a : World} {g B : Nat} {r : List UInt8} {sh : Bool} (h : Rd a g B r sh) {p : Addr} (hp : g < p.block) (u : Value) : Rd (a.setCell p u) g B r sh := by
 obtain ⟨A, m, c, h1, h2, h3, h4⟩ := h
 have hk : a.grownBy (a.setCell p u) (some p.block) := by
  have k := (Below.refl 0 a).setCell (p := p) (Nat.zero_le _) u
  exact ⟨k.os, k.tape, k.output, k.size, fun i hi hne => Below.heap_setCell _ _ _ _ (fun e => hne (by rw [e]))⟩
 exact ⟨A, m, c, h1.far (by omega) u, reads_but hk h2 (by omega), h3, h4⟩
def rdKey (r : List UInt8) : List UInt8 := tk (dr r 2) (beVal (tk r 2))
def rd1 (r : List UInt8) : List UInt8 := dr (dr r 2) (beVal (tk r 2))
def rdE (r : List UInt8) : En := ⟨str (rdKey r), (beVal (tk (rd1 r) 4) : Int), (beVal (tk (dr (rd1 r) 4) 2) : Int)⟩
def rdR (r : List UInt8) : List UInt8 := dr (dr (rd1 r) 4) 2
def rdS (r : List UInt8) : Bool := decide (r.length < 2) || decide ((dr r 2).length < beVal (tk r 2)) || decide ((rd1 r).length < 4) || decide ((dr (rd1 r) 4).length < 2)
def RetEn (w : World) (g B : Nat) (r : List UInt8) (sh : Bool) (e : Ending) (w' : World) : Prop :=
 e = .returned (rdE r).agg ∧ Rd w' g B (rdR r) (sh || rdS r) ∧ w.grownBy w' (some g)
set_option maxHeartbeats 2000000 in
theorem entry_any (g B : Nat) (r : List UInt8) (sh : Bool) (w : World) (h : Rd w g B r sh) :
 Calls Tryz.prog 110 #[.pointer (some ⟨g, 0, none⟩)] w (RetEn w g B r sh) := by
 have hgw : g < w.heap.size := by obtain ⟨A, m, c, h1, _⟩ := h; exact h1.lt
 have hBg : B ≤ g := by obtain ⟨A, m, c, _, _, _, h4⟩ := h; exact h4
 have X0 := Blk.new w 37 #[.string ⟨#[]⟩, .int .u32 0, .int .u16 0]
 have ha : w.grownBy (w.alloc (.cells #[.string ⟨#[]⟩, .int .u32 0, .int .u16 0] 37)) (some g) := but_alloc _ _ _
 have hrd0 : Rd (w.alloc (.cells #[.string ⟨#[]⟩, .int .u32 0, .int .u16 0] 37)) g B r sh := by
  obtain ⟨A, m, c, h1, h2, h3, h4⟩ := h
  exact ⟨A, m, c, h1.alloc _, h2.keep (fun p hp => World.cell?_alloc_lt w _ p (by omega)), h3, h4⟩
 have hb2 : beVal (tk r 2) ≤ 100000 := by have := beVal_lt_of (l := tk r 2) (n := 2) (by rw [tk_len]; exact Nat.le_refl _); omega
 have N1 := Lib.hid (number_any g B r sh 2 _ hrd0 (by omega))
 have HX := Lib.hid X0
 have HA := Lib.hid ha
 clear X0 ha hrd0 h
 go_enter Tryz.func110, Tryz.ntmps110
 go_wp2_with fail
 refine N1.out.mono ?_
 rintro e w1 ⟨rfl, hrd1, hb1⟩
 have n0 : (0 : Int) ≤ (beVal (tk r 2) : Int) := by omega
 have n1 : (beVal (tk r 2) : Int) ≤ 100000 := by omega
 go_wp2_with fail
 refine (take_any g B (dr r 2) _ (beVal (tk r 2)) w1 hrd1 hb2).mono ?_
 rintro e w2 ⟨A, c, rfl, hc, hr2, hrd2, hb2'⟩
 have hcv := conv_reads hr2 58 5 9 Tryz.underlying58 Tryz.underlying5 Tryz.underlying9 c
 go_wp2_with fail
 refine (number_any g B (rd1 r) _ 4 w2 hrd2 (by omega)).mono ?_
 rintro e w3 ⟨rfl, hrd3, hb3⟩
 go_wp2_with fail
 refine (number_any g B _ _ 2 w3 hrd3 (by omega)).mono ?_
 rintro e w4 ⟨rfl, hrd4, hb4⟩
 have X4 := (((HX.out.grown hb1 (by simp; omega)).grown hb2' (by simp; omega)).grown hb3 (by simp; omega)).grown hb4 (by simp; omega)
 have m0 : (0 : Int) ≤ (beVal (tk (dr (rd1 r) 4) 2) : Int) := by omega
 have m1 : (beVal (tk (dr (rd1 r) 4) 2) : Int) ≤ 65535 := by have := beVal_lt_of (l := tk (dr (rd1 r) 4) 2) (n := 2) (by rw [tk_len]; exact Nat.le_refl _); omega
 have hall := but_trans (but_trans (but_trans (but_trans HA.out hb1) hb2') hb3) hb4
 have c0 : w4.cell? ⟨w.heap.size, 0, none⟩ = some (.string ⟨#[]⟩) := X4.cell 0
 have c1 : w4.cell? ⟨w.heap.size, 1, none⟩ = some (.int .u32 0) := X4.cell 1
 have c2 : w4.cell? ⟨w.heap.size, 2, none⟩ = some (.int .u16 0) := X4.cell 2
 have f0 := X4.frozen 0
 have f1 := X4.frozen 1
 have f2 := X4.frozen 2
 have hsh : ((((sh || decide (r.length < 2)) || decide ((dr r 2).length < beVal (tk r 2))) || decide ((dr (dr r 2) (beVal (tk r 2))).length < 4)) || decide ((dr (rd1 r) 4).length < 2)) = (sh || rdS r) := by unfold rdS rd1; simp [Bool.or_assoc]
 have HF := Lib.hid (And.intro hall (And.intro hrd4 hsh))
 have hen : (rdE r).agg = .agg #[.string (str (tk (dr r 2) (beVal (tk r 2)))), .int .u32 (beVal (tk (rd1 r) 4) : Int), .int .u16 (beVal (tk (dr (rd1 r) 4) 2) : Int)] := rfl
 have HEn := Lib.hid hen
 clear hall hrd4 hsh hrd1 hrd2 hrd3 hb1 hb2' hb3 hb4 hr2 hcv hen
 go_wp2
 exact bodyPost_ret (v := .agg #[.string (str (tk (dr r 2) (beVal (tk r 2)))), .int .u32 (beVal (tk (rd1 r) 4) : Int), .int .u16 (beVal (tk (dr (rd1 r) 4) 2) : Int)]) (by simp [results, Tryz.results110, go_sem, c0, c1, c2]) rfl ⟨by rw [HEn.out], by rw [← HF.out.2.2]; repeat (first | exact HF.out.2.1 | refine Rd.far ?_ hgw _), by repeat (first | exact HF.out.1 | refine but_far ?_ (Nat.le_refl _) _)⟩
end
end Go.Proofs.YtebobcbaloddaaaGreat
namespace Go.Proofs.YtebobcbaloddaaaGreat
section
set_option linter.unusedSimpArgs false
set_option linter.unusedVariables false
open Go.RowKit
theorem nz_any11 (x : Int) (w : World) : Calls Tryz.prog 123 #[.int .u8 x] w fun e w' => e = .returned (.bool (x != 0)) ∧ w = w' := by
 go_enter Tryz.func123, Tryz.ntmps123
 go_wp2
 go_ret
 exact ⟨rfl, rfl⟩
set_option maxRecDepth 100000 in
theorem index_any11 (A : Option Addr) (n c B : Nat) (l : List UInt8) (w : World) (hr : Reads w B 1 A n (bL l)) (hn : n ≤ 1000000) :
 Calls Tryz.prog 125 #[.slice A n c, .func (.func 123) #[] #[]] w fun e w' => ∃ r : Int, e = .returned (.int .i64 r) ∧ w = w' ∧ decide (0 ≤ r) = !(allZ l) := by
 have hnI : (n : Int) ≤ 1000000 := by omega
 have hl := hr.bytes_len
 have Hl := Lib.hid hl; clear hl
 go_enter Tryz.func125, Tryz.ntmps125
 go_wp2_with fail
 go_loop [8] (fun v => ∃ k : Nat, v = .int .i64 k ∧ k ≤ n ∧ allZ (l.take k) = true) (fun v => n - (intOf v).toNat)
 case atStart => exact ⟨0, rfl, by omega, rfl⟩
 case round =>
  obtain ⟨k, rfl, hk, hz⟩ := hrel
  have g1 : (0 : Int) ≤ (k : Int) := by omega
  have Hz := Lib.hid hz; clear hz
  by_cases hki : k < n
  · have g2 : (k : Int) < (n : Int) := by omega
    obtain ⟨ad, x, rfl, _, hx, d1⟩ := hr.byte hki
    have Hx := Lib.hid hx; clear hx
    by_cases hx0 : x = 0
    · have e1 : ((x.toNat : Int) != 0) = false := by subst hx0; rfl
      have Hx0 := Lib.hid hx0; clear hx0
      go_wp2_with (go_at_call 123; refine (nz_any11 _ _).mono ?_; rintro e w' ⟨rfl, rfl⟩)
      go_round
      case rel => exact ⟨k + 1, by go_num, by omega, by rw [allZ_take Hx.out, Hz.out, Hx0.out]; rfl⟩
      case measure => simp [intOf]; omega
    · have e1 : ((x.toNat : Int) != 0) = true := by
       have : ¬ x.toNat = 0 := fun e => hx0 (UInt8.toNat_inj.1 e)
       simp; omega
      have Hx0 := Lib.hid hx0; clear hx0
      go_wp2_with (go_at_call 123; refine (nz_any11 _ _).mono ?_; rintro e w' ⟨rfl, rfl⟩)
      go_ret
      exact ⟨(k : Int), rfl, rfl, by rw [allZ_false Hx.out Hx0.out]; simp⟩
  · obtain rfl : n = k := by omega
    have e1 : l.take n = l := List.take_of_length_le (by rw [Hl.out]; exact Nat.le_refl _)
    have h2 := Hz.out
    rw [e1] at h2
    have H2 := Lib.hid h2; clear h2 e1
    go_wp2
    go_ret
    exact ⟨-1, rfl, rfl, by rw [H2.out]; rfl⟩
theorem contains_any11 (A : Option Addr) (n c B : Nat) (l : List UInt8) (w : World) (hr : Reads w B 1 A n (bL l)) (hn : n ≤ 1000000) :
 Calls Tryz.prog 122 #[.slice A n c, .func (.func 123) #[] #[]] w fun e w' => e = .returned (.bool (!(allZ l))) ∧ w = w' := by
 have I := Lib.hid (index_any11 A n c B l w hr hn)
 clear hr
 go_enter Tryz.func122, Tryz.ntmps122
 go_wp2_with fail
 refine I.out.mono ?_
 rintro e w' ⟨r, rfl, rfl, hq⟩
 have Hq := Lib.hid hq; clear hq
 go_wp2
 go_ret
 exact ⟨ret_bool (by rw [← Hq.out]), rfl⟩
theorem ended_any (g B : Nat) (r : List UInt8) (sh : Bool) (w : World) (h : Rd w g B r sh) (hr : r.length ≤ 1000000) :
 Calls Tryz.prog 111 #[.pointer (some ⟨g, 0, none⟩)] w fun e w' => e = .returned (.bool (!sh && allZ r)) ∧ w = w' := by
 obtain ⟨A, m, c, hX, hr1, hmc, hB⟩ := h
 have hl := hr1.bytes_len
 have c0 : w.cell? ⟨g, 0, none⟩ = some (.slice A m c) := hX.cell 0
 have c1 : w.cell? ⟨g, 1, none⟩ = some (.bool sh) := hX.cell 1
 have C := Lib.hid (contains_any11 A m c B r w hr1 (by omega))
 clear hX hr1 hl hr
 cases sh
 · go_enter Tryz.func111, Tryz.ntmps111
   go_wp2_with fail
   refine C.out.mono ?_
   rintro e w' ⟨rfl, rfl⟩
   go_wp2
   go_ret
   exact ⟨by simp, rfl⟩
 · go_enter Tryz.func111, Tryz.ntmps111
   go_wp2
   go_ret
   exact ⟨rfl, rfl⟩
end
end Go.Proofs.YtebobcbaloddaaaGreat
namespace Go.Proofs.YtebobcbaloddaaaGreat
section
set_option linter.unusedSimpArgs false
set_option linter.unusedVariables false
open Go.RowKit
def RetOp (w : World) (B : Nat) (l : List UInt8) (e : Ending) (w' : World) : Prop :=
 ∃ g, e = .returned (.tuple #[.agg #[.int .u8 (hdK l : Int), .int .u16 (hdC l : Int), .int .u32 (hdN l : Int)], .pointer (some ⟨g, 0, none⟩), .bool true]) ∧ w.heap.size ≤ g ∧ Rd w' g B (l.drop 8) false ∧ Below w.heap.size w w'
set_option maxRecDepth 100000 in
set_option maxHeartbeats 2000000 in
theorem open_ok (A : Option Addr) (n c B : Nat) (l : List UInt8) (k : Nat) (w : World) (hr : Reads w B 1 A n (bL l)) (hB : B ≤ w.heap.size) (hn : n ≤ 1000000) (hc : n ≤ c) (ho : hdOk l = true) (hk : hdK l = k) :
 Calls Tryz.prog 109 #[.slice A n c, .int .u8 (k : Int)] w (RetOp w B l) := by
 have hl := hr.bytes_len
 have h5 : n = 512 := by unfold hdOk at ho; rw [hl] at ho; simp at ho; exact ho.1
 subst h5
 have D := Lib.hid fun (W : World) (hb : Below w.heap.size w W) => dget_any A 512 c B l W (hr.below (hb.mono hB)) (Nat.le_trans hB hb.size) (by omega)
 have hv : hdV l = .agg #[.int .u8 (hdK l : Int), .int .u16 (hdC l : Int), .int .u32 (hdN l : Int)] := by unfold hdV; rw [ho]; rfl
 unfold RetHd at D
 rw [hv, ho] at D
 unfold RetOp
 rw [hk] at D ⊢
 generalize hdC l = C at *
 generalize hdN l = N at *
 obtain ⟨A2, hc2, hr2⟩ := cutb_lo (A := A) (n := 512) (c := c) .i64 8 8 rfl (by omega) hc
 have HR := Lib.hid (fun (W : World) (hb : Below w.heap.size w W) => hr2 W B l (hr.below (hb.mono hB)))
 clear hr2 hv ho hk hr hl
 have X0 := Blk.new w 184 #[.int .u8 0, .int .u16 0, .int .u32 0]
 go_enter Tryz.func109, Tryz.ntmps109
 go_wp2_with fail
 refine (D.out _ (by (with_reducible repeat (first | exact Below.refl _ _ | exact hb1 | exact hb1 | refine bto0 ?_ hb1 | refine bto0 ?_ hb1 | refine bdr ?_ _ | refine Below.drew ?_ | refine ball ?_ _)))).mono ?_
 rintro e w1 ⟨rfl, hb1⟩
 have X1 := X0.below hb1 X0.lt
 have c0 : w1.cell? ⟨w.heap.size, 0, none⟩ = some (.int .u8 0) := X1.cell 0
 have c1 : w1.cell? ⟨w.heap.size, 1, none⟩ = some (.int .u16 0) := X1.cell 1
 have c2 : w1.cell? ⟨w.heap.size, 2, none⟩ = some (.int .u32 0) := X1.cell 2
 have f0 := X1.frozen 0
 have f1 := X1.frozen 1
 have f2 := X1.frozen 2
 have hz1 := X1.lt
 go_wp2
 go_region
 all_goals go_wp2
 have hbel : ∀ u v x : Value, ∀ o o2 : Obj, Below w.heap.size w (((((w1.setCell ⟨w.heap.size, 0, none⟩ u).setCell ⟨w.heap.size, 1, none⟩ v).setCell ⟨w.heap.size, 2, none⟩ x).alloc o).alloc o2) := fun u v x o o2 => ball (ball (((bto0 (ball (Below.refl _ _) _) hb1).setCell (Nat.le_refl _) _ |>.setCell (Nat.le_refl _) _).setCell (Nat.le_refl _) _) _) _
 have hHB := Lib.hid hbel
 have X5 := ((((X1.set_ 0 (.int .u8 (k : Int))).set_ 1 (.int .u16 (C : Int))).set_ 2 (.int .u32 (N : Int))).alloc (.cells #[.int .u8 (k : Int), .int .u16 (C : Int), .int .u32 (N : Int)] 184)).alloc (.cells #[.slice A2 504 (c - 8), .bool false] 201)
 have y0 : _ = some (Value.int .u8 (k : Int)) := X5.cell 0
 have y1 : _ = some (Value.int .u16 (C : Int)) := X5.cell 1
 have y2 : _ = some (Value.int .u32 (N : Int)) := X5.cell 2
 refine bodyPost_ret (v := .tuple #[.agg #[.int .u8 (k : Int), .int .u16 (C : Int), .int .u32 (N : Int)], .pointer (some ⟨w1.heap.size + 1, 0, none⟩), .bool true]) (by simp [results, Tryz.results109, go_sem, y0, y1, y2]) rfl ⟨w1.heap.size + 1, rfl, by omega, ⟨A2, 504, c - 8, ?_, HR.out _ ?_, by omega, by omega⟩, ?_⟩
 all_goals first
  | exact hHB.out _ _ _ _ _
  | exact (hHB.out _ _ _ _ _).drew
  | exact Blk.newAt (by simp [World.setCell])
  | exact (Blk.newAt (by simp [World.setCell])).drew
end
end Go.Proofs.YtebobcbaloddaaaGreat
namespace Go.Proofs.YtebobcbaloddaaaGreat
section
set_option linter.unusedSimpArgs false
set_option linter.unusedVariables false
open Go.RowKit
theorem wpList_pushG {P : Program} {w : World} {ops : Array Oper} {rest : List Oper} {o : Oper} {a : Act} {Q : Exit → Act → World → Prop} {news : List Value} {arr : Array Value} (hgd : o.guard = none) (s x : Operand) (t : TypeId)
 (ho : o.op = .call { callee := .builtin .append, args := #[s, x], argTypes := #[t, t] })
 (base : Nat) (e : TypeId) (i : TypeInfo) (z : Value) (size bytes : Nat) (ht : P.underlying t = some (.slice e)) (hi : P.info? e = some i) (hz : i.zero = some z)
 (hsize : i.size = size) (hby : i.bytes = bytes) (hzs : z.cells.size = size) (hsz : 0 < size)
 (v : Value) (n : Nat) (xs : List Value) (hs : a.eval s = v) (hown : w.ownsRow base e size v n xs)
 (harr : arr = news.toArray) (g : Nat) (hx : a.eval x = .slice (some ⟨g, 0, none⟩) 1 1) (hg : g = w.heap.size) (hl : news.length = size) (h1 : ∀ u ∈ news, u.oneCell' = true)
 (h63 : n + 1 ≤ 1000000000) (hbytes : bytes ≤ 10000) (hbase : base ≤ w.heap.size)
 (h : ∀ v' w', w'.ownsRow base e size v' (n + 1) (xs ++ news) → (∀ B w0, B ≤ base → Below B w0 w → Below B w0 w') → wpList P ops Q rest (a.put o.dst v') w') : wpList P ops Q (o :: rest) a (w.alloc (.cells arr e)) := by
 subst hg
 exact wpList_push hgd s x t ho base e i z size bytes ht hi hz hsize hby hzs hsz v n xs hs hown harr hx hl h1 h63 hbytes hbase h
theorem vE_snoc (l : List En) (e : En) : vE (l ++ [e]) = vE l ++ e.cells := by simp [vE]
theorem cells_oneE (v : En) : ∀ u ∈ v.cells, u.oneCell' = true := by
 intro u hu
 simp only [En.cells, List.mem_cons, List.not_mem_nil, or_false] at hu
 rcases hu with rfl | rfl | rfl <;> rfl
theorem Tryz.infoE : (Tryz.prog.info? 37).map (fun i => (i.zero, i.size, i.bytes)) = some (some (.agg #[.string ⟨#[]⟩, .int .u32 0, .int .u16 0]), 3, 24) := by kernel_rfl
def rdMany : Nat → List UInt8 → List En
 | 0, _ => []
 | n + 1, r => rdE r :: rdMany n (rdR r)
def rdRest : Nat → List UInt8 → List UInt8
 | 0, r => r
 | n + 1, r => rdRest n (rdR r)
def rdSh : Nat → List UInt8 → Bool
 | 0, _ => false
 | n + 1, r => rdS r || rdSh n (rdR r)
theorem rdMany_len : ∀ n r, (rdMany n r).length = n
 | 0, _ => rfl
 | n + 1, r => by rw [rdMany, List.length_cons, rdMany_len n]
theorem rd_step : ∀ (n : Nat) (r : List UInt8), rdMany (n + 1) r = rdMany n r ++ [rdE (rdRest n r)] ∧ rdRest (n + 1) r = rdR (rdRest n r) ∧ rdSh (n + 1) r = (rdSh n r || rdS (rdRest n r))
 | 0, r => ⟨rfl, rfl, by simp [rdSh, rdRest]⟩
 | n + 1, r => by
   obtain ⟨a, b, c⟩ := rd_step n (rdR r)
   refine ⟨?_, ?_, ?_⟩
   · rw [rdMany, a]; rfl
   · rw [rdRest, b]; rfl
   · rw [rdSh, c]; simp [rdSh, rdRest, Bool.or_assoc]
theorem own_ne {w : World} {g n : Nat} {t : TypeId} {v : Value} {xs : List Value} (h : w.ownsRow (g + 1) t 3 v n xs) : v.ownBlock = none ∨ v.ownBlock ≠ some g := by
 rcases h.2 with ⟨rfl, _⟩ | ⟨g', cap, cur, rfl, hb, _⟩
 · exact .inl rfl
 · refine .inr ?_
   show some g' ≠ some g
   intro e
   injection e with e
   omega
theorem Rd.below {w w' : World} {g B : Nat} {r : List UInt8} {sh : Bool} (h : Rd w g B r sh) (hb : Below (g + 1) w w') : Rd w' g B r sh := by
 obtain ⟨A, m, c, h1, h2, h3, h4⟩ := h
 exact ⟨A, m, c, h1.below hb (by omega), h2.below (hb.mono (by omega)), h3, h4⟩
theorem below_but {a b c : World} {g B : Nat} (h : Below B a b) (k : b.grownBy c (some g)) (hg : B ≤ g) (hs : g ≤ b.heap.size) : Below B a c :=
 h.trans ⟨k.os, k.tape, k.output, k.size, fun i hi => by
  rcases Nat.lt_or_ge i b.heap.size with h1 | h1
  · exact k.block i h1 (fun e => by injection e with e; omega)
  · omega⟩
end
end Go.Proofs.YtebobcbaloddaaaGreat
namespace Go.Proofs.YtebobcbaloddaaaGreat
section
set_option linter.unusedSimpArgs false
set_option linter.unusedVariables false
open Go.RowKit
theorem tk_app (a r : List UInt8) {k : Nat} (h : a.length = k) : tk (a ++ r) k = a := by
 unfold tk
 rw [if_neg (by simp only [List.length_append]; omega), ← h, List.take_left]
theorem dr_app (a r : List UInt8) {k : Nat} (h : a.length = k) : dr (a ++ r) k = r := by
 unfold dr
 rw [if_neg (by simp only [List.length_append]; omega), ← h, List.drop_left]
theorem rd_app (e : En) (r : List UInt8) (hs : e.s.size < 65536) (hp : 0 ≤ e.p ∧ e.p ≤ 4294967295) (hq : 0 ≤ e.q ∧ e.q ≤ 65535) :
 rdE (enL e ++ r) = e ∧ rdR (enL e ++ r) = r ∧ rdS (enL e ++ r) = false := by
 obtain ⟨s, p, q⟩ := e
 simp only at hs hp hq
 have e0 : enL ⟨s, p, q⟩ ++ r = be 2 s.size ++ (s.data.toList ++ (be 4 p.toNat ++ (be 2 q.toNat ++ r))) := by
  unfold enL; simp only [List.append_assoc]
 rw [e0]
 have hl : s.data.toList.length = s.size := rfl
 have t1 : tk (be 2 s.size ++ (s.data.toList ++ (be 4 p.toNat ++ (be 2 q.toNat ++ r)))) 2 = be 2 s.size := tk_app _ _ (be_len 2 _)
 have t2 : dr (be 2 s.size ++ (s.data.toList ++ (be 4 p.toNat ++ (be 2 q.toNat ++ r)))) 2 = s.data.toList ++ (be 4 p.toNat ++ (be 2 q.toNat ++ r)) := dr_app _ _ (be_len 2 _)
 have v1 : beVal (be 2 s.size) = s.size := by rw [beVal_be]; exact Nat.mod_eq_of_lt (by omega)
 have v2 : beVal (be 4 p.toNat) = p.toNat := by rw [beVal_be]; exact Nat.mod_eq_of_lt (by omega)
 have v3 : beVal (be 2 q.toNat) = q.toNat := by rw [beVal_be]; exact Nat.mod_eq_of_lt (by omega)
 have k1 : rdKey (be 2 s.size ++ (s.data.toList ++ (be 4 p.toNat ++ (be 2 q.toNat ++ r)))) = s.data.toList := by unfold rdKey; rw [t1, t2, v1]; exact tk_app _ _ hl
 have k2 : rd1 (be 2 s.size ++ (s.data.toList ++ (be 4 p.toNat ++ (be 2 q.toNat ++ r)))) = be 4 p.toNat ++ (be 2 q.toNat ++ r) := by unfold rd1; rw [t1, t2, v1]; exact dr_app _ _ hl
 have t3 : tk (be 4 p.toNat ++ (be 2 q.toNat ++ r)) 4 = be 4 p.toNat := tk_app _ _ (be_len 4 _)
 have t4 : dr (be 4 p.toNat ++ (be 2 q.toNat ++ r)) 4 = be 2 q.toNat ++ r := dr_app _ _ (be_len 4 _)
 have t5 : tk (be 2 q.toNat ++ r) 2 = be 2 q.toNat := tk_app _ _ (be_len 2 _)
 have t6 : dr (be 2 q.toNat ++ r) 2 = r := dr_app _ _ (be_len 2 _)
 refine ⟨?_, ?_, ?_⟩
 · unfold rdE
   rw [k1, k2, t3, t4, t5, v2, v3, str_of]
   have h1 : ((p.toNat : Nat) : Int) = p := by omega
   have h2 : ((q.toNat : Nat) : Int) = q := by omega
   rw [h1, h2]
 · unfold rdR; rw [k2, t4, t6]
 · unfold rdS
   rw [t1, t2, v1, k2, t4]
   simp only [List.length_append, be_len, hl, Bool.or_eq_false_iff, decide_eq_false_iff_not]
   refine ⟨⟨⟨?_, ?_⟩, ?_⟩, ?_⟩ <;> omega
def okE (e : En) : Prop := e.s.size < 65536 ∧ (0 ≤ e.p ∧ e.p ≤ 4294967295) ∧ (0 ≤ e.q ∧ e.q ≤ 65535)
theorem rdMany_app : ∀ (l : List En) (r : List UInt8), (∀ e ∈ l, okE e) → rdMany l.length (l.flatMap enL ++ r) = l ∧ rdRest l.length (l.flatMap enL ++ r) = r ∧ rdSh l.length (l.flatMap enL ++ r) = false
 | [], r, _ => ⟨rfl, rfl, rfl⟩
 | e :: l, r, h => by
   obtain ⟨h1, h2, h3⟩ := h e (by simp)
   obtain ⟨a, b, c⟩ := rd_app e (l.flatMap enL ++ r) h1 h2 h3
   obtain ⟨x, y, z⟩ := rdMany_app l r (fun u hu => h u (by simp [hu]))
   have e0 : (e :: l).flatMap enL ++ r = enL e ++ (l.flatMap enL ++ r) := by rw [List.flatMap_cons, List.append_assoc]
   rw [e0, List.length_cons]
   refine ⟨?_, ?_, ?_⟩
   · rw [rdMany, a, b, x]
   · rw [rdRest, b, y]
   · rw [rdSh, c, b, z]; rfl
theorem allZ_rep (n : Nat) : allZ (List.replicate n 0) = true := by
 unfold allZ
 rw [List.all_eq_true]
 intro x hx
 simp [List.eq_of_mem_replicate hx]
theorem head8 (k : UInt8) (c n : Nat) : (headL k c n).take 8 = [k, 0] ++ be 2 c ++ be 4 n := by
 rw [← head0_eq]
 unfold head0
 rw [List.take_left' (by simp only [List.length_append, List.length_cons, List.length_nil, be_len])]
theorem hd_page (k : UInt8) (c n : Nat) (X : List UInt8) (hc : c < 65536) (hn : n < 4294967296) (hX : X.length = 504) :
 hdOk ((headL k c n).take 8 ++ X) = true ∧ hdK ((headL k c n).take 8 ++ X) = k.toNat ∧ hdC ((headL k c n).take 8 ++ X) = c ∧ hdN ((headL k c n).take 8 ++ X) = n ∧ ((headL k c n).take 8 ++ X).drop 8 = X := by
 rw [head8]
 have hb2 : (be 2 c).length = 2 := be_len 2 c
 have hb4 : (be 4 n).length = 4 := be_len 4 n
 have v2 : beVal (be 2 c) = c := by rw [beVal_be]; exact Nat.mod_eq_of_lt (by omega)
 have v4 : beVal (be 4 n) = n := by rw [beVal_be]; exact Nat.mod_eq_of_lt (by omega)
 have e1 : ([k, 0] ++ be 2 c ++ be 4 n) ++ X = [k, 0] ++ (be 2 c ++ (be 4 n ++ X)) := by simp only [List.append_assoc]
 refine ⟨?_, ?_, ?_, ?_, ?_⟩
 · unfold hdOk
   rw [e1]
   have : ([k, 0] ++ (be 2 c ++ (be 4 n ++ X))).length = 512 := by simp only [List.length_append, List.length_cons, List.length_nil, be_len, hX]
   rw [this]
   rfl
 · rw [e1]; rfl
 · rw [e1]
   unfold hdC
   have : ([k, 0] ++ (be 2 c ++ (be 4 n ++ X))).drop 2 = be 2 c ++ (be 4 n ++ X) := rfl
   rw [this, List.take_left' hb2, v2]
 · unfold hdN
   have e2 : ([k, 0] ++ be 2 c ++ be 4 n) ++ X = ([k, 0] ++ be 2 c) ++ (be 4 n ++ X) := by simp only [List.append_assoc]
   rw [e2, List.drop_left' (by simp only [List.length_append, List.length_cons, List.length_nil, be_len]), List.take_left' hb4, v4]
 · rw [List.drop_left' (by simp only [List.length_append, List.length_cons, List.length_nil, be_len])]
theorem mayEn_sizes {l : List En} (h : mayEn l = true) : ∀ e ∈ l, e.s.size ≤ 200 := by
 unfold mayEn at h
 rw [Bool.and_eq_true] at h
 have := List.all_eq_true.1 h.1
 intro e he
 simpa using this e he
theorem leafL_page (next : Nat) (l : List En) (hnx : next < 4294967296) (hok : ∀ e ∈ l, e.ok) (hm : mayEn l = true) (hf : sumE l ≤ 504) :
 hdOk (leafL next l) = true ∧ hdK (leafL next l) = 2 ∧ hdC (leafL next l) = l.length ∧ hdN (leafL next l) = next ∧ (leafL next l).length = 512 ∧
 rdMany l.length ((leafL next l).drop 8) = l ∧ rdRest l.length ((leafL next l).drop 8) = List.replicate (512 - (8 + sumE l)) 0 ∧ rdSh l.length ((leafL next l).drop 8) = false := by
 have hs := mayEn_sizes hm
 have hoks : ∀ e ∈ l, okE e := fun e he => ⟨by have := hs e he; omega, (hok e he).2.1, (hok e he).2.2⟩
 have hll : l.length ≤ 63 := by have := sumE_eq l; omega
 have e0 : leafL next l = (headL 2 l.length next).take 8 ++ (l.flatMap enL ++ List.replicate (512 - (8 + sumE l)) 0) := by unfold leafL; rw [List.append_assoc]
 have hX : (l.flatMap enL ++ List.replicate (512 - (8 + sumE l)) 0).length = 504 := by rw [List.length_append, sumE_len, List.length_replicate]; omega
 obtain ⟨a, b, c, d, e⟩ := hd_page 2 l.length next _ (by omega) hnx hX
 obtain ⟨x, y, z⟩ := rdMany_app l (List.replicate (512 - (8 + sumE l)) 0) hoks
 rw [e0]
 refine ⟨a, b, c, d, ?_, ?_, ?_, ?_⟩
 · rw [List.length_append, hX, List.length_take, headL_len]; rfl
 · rw [e]; exact x
 · rw [e]; exact y
 · rw [e]; exact z
end
end Go.Proofs.YtebobcbaloddaaaGreat
namespace Go.Proofs.YtebobcbaloddaaaGreat
section
set_option linter.unusedSimpArgs false
set_option linter.unusedVariables false
open Go.RowKit
def RetGlo (w : World) (N : Nat) (l : List En) (e : Ending) (w' : World) : Prop := ∃ A c, e = .returned (.tuple #[.int .u32 (N : Int), .slice A l.length c, .int .i64 0]) ∧ l.length ≤ c ∧ w'.ownsRow w.heap.size 37 3 (.slice A l.length c) l.length (vE l) ∧ Below w.heap.size w w'
def RetGla (w : World) (N : Nat) (l : List En) : Bool → Ending → World → Prop
 | true, e, w' => RetGlo w N l e w'
 | false, e, w' => RetB w (.tuple #[.int .u32 0, .slice none 0 0, .int .i64 2]) e w'
theorem own_below {w w' : World} {base : Nat} {t : TypeId} {sz n : Nat} {v : Value} {xs : List Value} (h : w.ownsRow base t sz v n xs) (hb : Below w.heap.size w w') : w'.ownsRow base t sz v n xs :=
 World.ownsRow.kept h (row := none) ⟨hb.os, hb.tape, hb.output, hb.size, fun i hi _ => hb.block i hi⟩ (by cases h' : v.ownBlock <;> simp)
set_option maxHeartbeats 2000000 in
theorem open_no (A : Option Addr) (n c B : Nat) (l : List UInt8) (k : Nat) (w : World) (hr : Reads w B 1 A n (bL l)) (hB : B ≤ w.heap.size) (hn : n ≤ 1000000) (ho : hdOk l = false ∨ hdK l ≠ k) :
 Calls Tryz.prog 109 #[.slice A n c, .int .u8 (k : Int)] w (RetB w (.tuple #[.agg #[.int .u8 0, .int .u16 0, .int .u32 0], .pointer none, .bool false])) := by
 have X0 := Blk.new w 184 #[.int .u8 0, .int .u16 0, .int .u32 0]
 have D := fun (W : World) (hb : Below w.heap.size w W) => dget_any A n c B l W (hr.below (hb.mono hB)) (Nat.le_trans hB hb.size) (by omega)
 unfold RetHd at D
 have fin : ∀ (W : World) (u : Value), Below w.heap.size w W → Below w.heap.size w (W.setCell ⟨w.heap.size, 0, none⟩ u) := fun W u h => h.setCell (Nat.le_refl _) _
 by_cases hk : hdOk l = true
 rotate_left
 · have hk' : hdOk l = false := by simpa using hk
   have hv : hdV l = .agg #[.int .u8 0, .int .u16 0, .int .u32 0] := by unfold hdV; rw [hk']; rfl
   rw [hv, hk'] at D
   have HD := Lib.hid D
   clear D hv hk hk' ho hr
   go_enter Tryz.func109, Tryz.ntmps109
   go_wp2_with fail
   refine (HD.out _ (by (with_reducible repeat (first | exact Below.refl _ _ | exact hb1 | exact hb1 | refine bto0 ?_ hb1 | refine bto0 ?_ hb1 | refine bdr ?_ _ | refine Below.drew ?_ | refine ball ?_ _)))).mono ?_
   rintro e w1 ⟨rfl, hb1⟩
   have X1 := X0.below hb1 X0.lt
   have f0 := X1.frozen 0
   have f1 := X1.frozen 1
   have f2 := X1.frozen 2
   have c0 : w1.cell? ⟨w.heap.size, 0, none⟩ = some (.int .u8 0) := X1.cell 0
   have c1 : w1.cell? ⟨w.heap.size, 1, none⟩ = some (.int .u16 0) := X1.cell 1
   have c2 : w1.cell? ⟨w.heap.size, 2, none⟩ = some (.int .u32 0) := X1.cell 2
   have hz1 := X1.lt
   go_wp2
   have hbel : ∀ u v x : Value, ∀ o : Obj, Below w.heap.size w ((((w1.setCell ⟨w.heap.size, 0, none⟩ u).setCell ⟨w.heap.size, 1, none⟩ v).setCell ⟨w.heap.size, 2, none⟩ x).alloc o) := fun u v x o => ball (((bto0 (ball (Below.refl _ _) _) hb1).setCell (Nat.le_refl _) _ |>.setCell (Nat.le_refl _) _).setCell (Nat.le_refl _) _) _
   have X5 := (((X1.set_ 0 (.int .u8 0)).set_ 1 (.int .u16 0)).set_ 2 (.int .u32 0)).alloc (.cells #[.int .u8 0, .int .u16 0, .int .u32 0] 184)
   have y0 : _ = some (Value.int .u8 0) := X5.cell 0
   have y1 : _ = some (Value.int .u16 0) := X5.cell 1
   have y2 : _ = some (Value.int .u32 0) := X5.cell 2
   exact bodyPost_ret (v := .tuple #[.agg #[.int .u8 0, .int .u16 0, .int .u32 0], .pointer none, .bool false]) (by simp [results, Tryz.results109, go_sem, y0, y1, y2]) rfl ⟨rfl, hbel _ _ _ _⟩
 · have hkk : hdK l ≠ k := by rcases ho with h | h; rw [hk] at h; cases h; exact h
   have hv : hdV l = .agg #[.int .u8 (hdK l : Int), .int .u16 (hdC l : Int), .int .u32 (hdN l : Int)] := by unfold hdV; rw [hk]; rfl
   rw [hv, hk] at D
   generalize hdK l = K at *
   generalize hdC l = C at *
   generalize hdN l = N at *
   have e1 : ((K : Int) != (k : Int)) = true := by simp; omega
   have e2 : ((K : Int) == (k : Int)) = false := by simp; omega
   have e3 : (K != k) = true := by simpa using hkk
   have e4 : (K == k) = false := by simpa using hkk
   have HD := Lib.hid D
   clear D hv hk hkk ho hr
   go_enter Tryz.func109, Tryz.ntmps109
   go_wp2_with fail
   refine (HD.out _ (by (with_reducible repeat (first | exact Below.refl _ _ | exact hb1 | exact hb1 | refine bto0 ?_ hb1 | refine bto0 ?_ hb1 | refine bdr ?_ _ | refine Below.drew ?_ | refine ball ?_ _)))).mono ?_
   rintro e w1 ⟨rfl, hb1⟩
   have X1 := X0.below hb1 X0.lt
   have f0 := X1.frozen 0
   have f1 := X1.frozen 1
   have f2 := X1.frozen 2
   have c0 : w1.cell? ⟨w.heap.size, 0, none⟩ = some (.int .u8 0) := X1.cell 0
   have c1 : w1.cell? ⟨w.heap.size, 1, none⟩ = some (.int .u16 0) := X1.cell 1
   have c2 : w1.cell? ⟨w.heap.size, 2, none⟩ = some (.int .u32 0) := X1.cell 2
   have hz1 := X1.lt
   go_wp2
   have hbel : ∀ u v x : Value, ∀ o : Obj, Below w.heap.size w ((((w1.setCell ⟨w.heap.size, 0, none⟩ u).setCell ⟨w.heap.size, 1, none⟩ v).setCell ⟨w.heap.size, 2, none⟩ x).alloc o) := fun u v x o => ball (((bto0 (ball (Below.refl _ _) _) hb1).setCell (Nat.le_refl _) _ |>.setCell (Nat.le_refl _) _).setCell (Nat.le_refl _) _) _
   have X5 := (((X1.set_ 0 (.int .u8 0)).set_ 1 (.int .u16 0)).set_ 2 (.int .u32 0)).alloc (.cells #[.int .u8 (K : Int), .int .u16 (C : Int), .int .u32 (N : Int)] 184)
   have y0 : _ = some (Value.int .u8 0) := X5.cell 0
   have y1 : _ = some (Value.int .u16 0) := X5.cell 1
   have y2 : _ = some (Value.int .u32 0) := X5.cell 2
   exact bodyPost_ret (v := .tuple #[.agg #[.int .u8 0, .int .u16 0, .int .u32 0], .pointer none, .bool false]) (by simp [results, Tryz.results109, go_sem, y0, y1, y2]) rfl ⟨rfl, hbel _ _ _ _⟩
set_option maxHeartbeats 2000000 in
theorem getLeaf_op (A : Option Addr) (n c B : Nat) (l : List UInt8) (w : World) (hr : Reads w B 1 A n (bL l)) (hB : B ≤ w.heap.size) (hn : n ≤ 1000000) (ho : hdOk l = false ∨ hdK l ≠ 2) :
 Calls Tryz.prog 89 #[.slice A n c] w (RetB w (.tuple #[.int .u32 0, .slice none 0 0, .int .i64 2])) := by
 have O := Lib.hid (open_no A n c B l 2 w hr hB hn ho)
 clear hr hB hn ho
 go_enter Tryz.func89, Tryz.ntmps89
 go_wp2_with fail
 refine O.out.mono ?_
 rintro e w1 ⟨rfl, hb1⟩
 go_wp2
 exact bodyPost_ret (v := .tuple #[.int .u32 0, .slice none 0 0, .int .i64 2]) (by simp [results, Tryz.results89, go_sem]) rfl ⟨rfl, ball hb1 _⟩
set_option maxHeartbeats 2000000 in
theorem getInner_op (A : Option Addr) (n c B : Nat) (l : List UInt8) (w : World) (hr : Reads w B 1 A n (bL l)) (hB : B ≤ w.heap.size) (hn : n ≤ 1000000) (ho : hdOk l = false ∨ hdK l ≠ 3) :
 Calls Tryz.prog 90 #[.slice A n c] w (RetB w (.tuple #[.slice none 0 0, .slice none 0 0, .int .i64 2])) := by
 have O := Lib.hid (open_no A n c B l 3 w hr hB hn ho)
 clear hr hB hn ho
 go_enter Tryz.func90, Tryz.ntmps90
 go_wp2_with fail
 refine O.out.mono ?_
 rintro e w1 ⟨rfl, hb1⟩
 go_wp2
 exact bodyPost_ret (v := .tuple #[.slice none 0 0, .slice none 0 0, .int .i64 2]) (by simp [results, Tryz.results90, go_sem]) rfl ⟨rfl, ball hb1 _⟩
set_option maxRecDepth 100000 in
set_option maxHeartbeats 4000000 in
theorem getLeaf_all (A : Option Addr) (n c B C : Nat) (l : List UInt8) (L : List En) (R : List UInt8) (w : World) (hr : Reads w B 1 A n (bL l)) (hB : B ≤ w.heap.size) (hn : n ≤ 1000000) (hc : n ≤ c) (ho : hdOk l = true) (hk : hdK l = 2) (hC : hdC l = C) (hC2 : C ≤ 65535)
 (hL : rdMany C (l.drop 8) = L) (hR : rdRest C (l.drop 8) = R) (S Z M : Bool) (hS : rdSh C (l.drop 8) = S) (hz : allZ R = Z) (hRl : R.length ≤ 1000000) (hm : mayEn L = M) :
 Calls Tryz.prog 89 #[.slice A n c] w (RetGla w (hdN l) L (!S && Z && M)) := by
 have O := Lib.hid (open_ok A n c B l 2 w hr hB hn hc ho hk)
 unfold RetOp at O
 rw [hk, hC] at O
 generalize hdN l = N at *
 generalize l.drop 8 = r0 at *
 have hLl : L.length = C := by rw [← hL, rdMany_len]
 have HL := Lib.hid (And.intro hL (And.intro hR (And.intro hS (And.intro hz (And.intro hm hLl)))))
 have HRl := Lib.hid hRl
 clear hr hn hc ho hk hC hL hR hS hz hm hLl hRl
 have hCI : (C : Int) ≤ 65535 := by omega
 obtain ⟨i0, hi0, hz0, hs0, hy0⟩ := int_info8 Tryz.infoE
 go_enter Tryz.func89, Tryz.ntmps89
 go_wp2_with fail
 refine O.out.mono ?_
 rintro e w1 ⟨g, rfl, hg, hrd, hb1⟩
 have hgl : g < w1.heap.size := by obtain ⟨_, _, _, h1, _⟩ := hrd; exact h1.lt
 have hBg : B ≤ g := by omega
 have X0 := Blk.new w1 184 #[.int .u8 2, .int .u16 (C : Int), .int .u32 (N : Int)]
 have hrd0 : Rd (w1.alloc (.cells #[.int .u8 2, .int .u16 (C : Int), .int .u32 (N : Int)] 184)) g B r0 false := hrd.but (but_alloc w1 w1.heap.size _) (by omega) (by omega)
 have hbw : Below w.heap.size w (w1.alloc (.cells #[.int .u8 2, .int .u16 (C : Int), .int .u32 (N : Int)] 184)) := ball (bto0 (Below.refl _ _) hb1) _
 clear hrd hb1
 have HX0 := Lib.hid (And.intro X0 (And.intro hrd0 hbw))
 clear X0 hrd0 hbw
 have cz : (w1.alloc (.cells #[.int .u8 2, .int .u16 (C : Int), .int .u32 (N : Int)] 184)).cell? ⟨w1.heap.size, 1, none⟩ = some (.int .u16 (C : Int)) := HX0.out.1.cell 1
 go_wp2_with fail
 obtain ⟨X0, hrd0, hbw0⟩ := HX0.out
 have hs0' : w1.heap.size + 1 = (w1.alloc (.cells #[.int .u8 2, .int .u16 (C : Int), .int .u32 (N : Int)] 184)).heap.size := by simp
 obtain ⟨W0, hW0⟩ : ∃ W0, w1.alloc (.cells #[.int .u8 2, .int .u16 (C : Int), .int .u32 (N : Int)] 184) = W0 := ⟨_, rfl⟩
 rw [hW0] at X0 hrd0 hbw0 hs0' ⊢
 clear hW0 HX0 cz
 obtain ⟨h, hh⟩ : ∃ h, w1.heap.size = h := ⟨_, rfl⟩
 rw [hh] at X0 hgl hs0' ⊢
 clear hh
 go_loopw [8, 19] (fun rv iv wr => ∃ j : Nat, j ≤ C ∧ iv = .int .u16 (j : Int) ∧ wr.ownsRow (h + 1) 37 3 rv (rdMany j r0).length (vE (rdMany j r0)) ∧ Rd wr g B (rdRest j r0) (rdSh j r0) ∧ Blk wr h 184 #[.int .u8 2, .int .u16 (C : Int), .int .u32 (N : Int)] ∧ Below w.heap.size w wr ∧ h + 1 ≤ wr.heap.size) (fun _ iv _ => C - (intOf iv).toNat)
 case atStart => exact ⟨0, by omega, rfl, ⟨rfl, .inl ⟨rfl, rfl⟩⟩, hrd0, X0, hbw0, by omega⟩
 case round =>
  clear X0 hrd0 hbw0
  obtain ⟨j, hj, rfl, hown, hrd, hX, hb, hsz⟩ := hrel
  have r0' : (0 : Int) ≤ (j : Int) := by omega
  by_cases hlt : j < C
  · have r1 : (j : Int) < (C : Int) := by omega
    obtain ⟨st1, st2, st3⟩ := rd_step j r0
    have HST := Lib.hid (And.intro st1 (And.intro st2 st3))
    clear st1 st2 st3
    have EN := Lib.hid (entry_any g B (rdRest j r0) (rdSh j r0) wr hrd)
    have hjl : (rdMany j r0).length ≤ 65535 := by rw [rdMany_len]; omega
    obtain ⟨E, hE⟩ : ∃ E, rdE (rdRest j r0) = E := ⟨_, rfl⟩
    unfold RetEn at EN
    rw [hE] at EN
    have HE := Lib.hid hE; clear hE
    obtain ⟨es, ep, eq⟩ := E
    unfold En.agg at EN
    simp only at EN
    go_wp2_with fail
    refine EN.out.mono ?_
    rintro e w2 ⟨rfl, hrd2, hbt⟩
    have hown2 := World.ownsRow.kept (row := some g) hown hbt (by
     rcases own_ne (g := h) hown with h1 | h1
     · exact .inl h1
     · rcases hown.2 with ⟨hv, _⟩ | ⟨g', cap, cur, hv, hb', _⟩
       · exact .inl (by rw [hv]; rfl)
       · refine .inr ?_
         rw [hv]
         show some g' ≠ some g
         intro e; injection e with e; omega)
    have hX2 := hX.grown hbt (by simp; omega)
    have hb2 : Below w.heap.size w w2 := below_but hb hbt hg (by have := hX.lt; omega)
    have hsz2 := Nat.le_trans hsz hbt.size
    clear hown hrd hX hb hbt
    go_wp2_with (at_builtin; go_loud (refine wpList_pushG (news := En.cells ⟨es, ep, eq⟩) rfl _ _ 22 rfl (h + 1) 37 i0 _ 3 24 Tryz.underlying22 hi0 hz0 hs0 hy0 rfl (by decide) u8 (rdMany j r0).length _ rfl hown2 rfl _ rfl rfl rfl (cells_oneE _) (by omega) (by omega) hsz2 ?_); intro v3 w3 hown3 hk3)
    have hk4 := hk3 (h + 1) w2 (Nat.le_refl _) (Below.refl _ _)
    go_roundw
    case rel => exact ⟨j + 1, by omega, by go_num, by rw [HST.out.1, HE.out, vE_snoc, List.length_append]; exact hown3, by rw [HST.out.2.1, HST.out.2.2]; exact hrd2.below (hk4.mono (by omega)), hX2.below hk4 (by omega), hk3 _ _ (by omega) hb2, Nat.le_trans hsz2 hk4.size⟩
    case measure => simp [intOf]; omega
  · obtain rfl : j = C := by omega
    obtain ⟨e1, e2, e3, e4, e5, e6⟩ := HL.out
    rw [e1] at hown
    rw [e2, e3] at hrd
    have ED := Lib.hid (ended_any g B R S wr hrd HRl.out)
    rw [e4] at ED
    have HED := Lib.hid ED; clear ED
    obtain ⟨A5, c5, rfl, hc5⟩ := own_form hown
    have hro := Reads.of_own hown
    have MY := mayE_any A5 L.length c5 L wr hro (by rw [e6]; omega)
    rw [e5] at MY
    have HO := Lib.hid hown
    have HM := Lib.hid MY; clear MY e1 e2 e3 e4 e5 e6 hown hrd
    cases S
    rotate_left
    · go_wp2_with fail
      refine HED.out.mono ?_
      rintro e w' ⟨rfl, rfl⟩
      go_wp2
      exact bodyPost_ret (v := .tuple #[.int .u32 0, .slice none 0 0, .int .i64 2]) (by simp [results, Tryz.results89, go_sem]) rfl ⟨rfl, hb⟩
    · cases Z
      · go_wp2_with fail
        refine HED.out.mono ?_
        rintro e w' ⟨rfl, rfl⟩
        go_wp2
        exact bodyPost_ret (v := .tuple #[.int .u32 0, .slice none 0 0, .int .i64 2]) (by simp [results, Tryz.results89, go_sem]) rfl ⟨rfl, hb⟩
      · cases M
        · go_wp2_with fail
          refine HED.out.mono ?_
          rintro e w' ⟨rfl, rfl⟩
          go_wp2_with fail
          refine HM.out.mono ?_
          rintro e w3 ⟨rfl, hb3⟩
          go_wp2
          exact bodyPost_ret (v := .tuple #[.int .u32 0, .slice none 0 0, .int .i64 2]) (by simp [results, Tryz.results89, go_sem]) rfl ⟨rfl, bto0 hb hb3⟩
        · go_wp2_with fail
          refine HED.out.mono ?_
          rintro e w' ⟨rfl, rfl⟩
          go_wp2_with fail
          refine HM.out.mono ?_
          rintro e w3 ⟨rfl, hb3⟩
          have X3 := hX.below hb3 hX.lt
          have y2 : w3.cell? ⟨h, 2, none⟩ = some (.int .u32 (N : Int)) := X3.cell 2
          go_wp2
          exact bodyPost_ret (v := .tuple #[.int .u32 (N : Int), .slice A5 L.length c5, .int .i64 0]) (by simp [results, Tryz.results89, go_sem]) rfl ⟨A5, c5, rfl, hc5, own_below (World.ownsRow.mono HO.out (by omega)) hb3, bto0 hb hb3⟩
end
end Go.Proofs.YtebobcbaloddaaaGreat
namespace Go.Proofs.YtebobcbaloddaaaGreat
section
set_option linter.unusedSimpArgs false
set_option linter.unusedVariables false
open Go.RowKit
end
end Go.Proofs.YtebobcbaloddaaaGreat
namespace Go.Proofs.YtebobcbaloddaaaGreat
section
set_option linter.unusedSimpArgs false
set_option linter.unusedVariables false
open Go.RowKit
end
end Go.Proofs.YtebobcbaloddaaaGreat
namespace Go.Proofs.YtebobcbaloddaaaGreat
section
set_option linter.unusedSimpArgs false
set_option linter.unusedVariables false
open Go.RowKit
set_option maxRecDepth 100000 in
set_option maxHeartbeats 2000000 in
theorem sameE_any (A : Option Addr) (n c : Nat) (A2 : Option Addr) (c2 : Nat) (l : List En) (w : World) (hr : Reads w w.heap.size 3 A n (vE l)) (hr2 : Reads w w.heap.size 3 A2 n (vE l)) (hn : n ≤ 1000000) :
 Calls Tryz.prog 18 #[.slice A n c, .slice A2 n c2] w (RetB w (.bool true)) := by
 have hnI : (n : Int) ≤ 1000000 := by omega
 go_enter Tryz.func18, Tryz.ntmps18
 go_wp2
 go_loopw [13] (fun iv wr => ∃ j : Nat, j ≤ n ∧ iv = .int .i64 j ∧ Below w.heap.size w wr) (fun iv _ => n - (intOf iv).toNat)
 case atStart => exact ⟨0, by omega, rfl, Below.refl _ _⟩
 case round =>
  obtain ⟨j, hj, rfl, hb⟩ := hrel
  have q0 : (0 : Int) ≤ (j : Int) := by omega
  by_cases hlt : j < n
  · have q1 : (j : Int) < (n : Int) := by omega
    obtain ⟨ad, v, rfl, hab, hv, d0, d1, d2⟩ := (hr.below hb).ent hlt
    obtain ⟨ad2, v2, rfl, hab2, hv2, d20, d21, d22⟩ := (hr2.below hb).ent hlt
    rw [hv] at hv2
    injection hv2 with hv2
    subst hv2
    clear hv
    obtain ⟨vk, vi, vs⟩ := v
    simp only at d0 d1 d2 d20 d21 d22
    go_wp2
    go_quiet (fail)
    go_wp2
    go_roundw
    case rel => exact ⟨j + 1, by omega, by go_num, bdr hb _⟩
    case measure => simp [intOf]; omega
  · go_wp2
    go_ret
    exact ⟨rfl, hb⟩
end
end Go.Proofs.YtebobcbaloddaaaGreat
namespace Go.Proofs.YtebobcbaloddaaaGreat
section
set_option linter.unusedSimpArgs false
set_option linter.unusedVariables false
open Go.RowKit
theorem chN_take {l : List En} {k : Nat} {v x : En} (h : l[k]? = some v) : chN (l.take (k + 1)) x = chN (l.take k) x + (if cmpE v x ≤ 0 then 1 else 0) := by
 unfold chN; rw [List.take_add_one, h, List.countP_append]; simp [List.countP_cons]
theorem chN_le (l : List En) (x : En) (k : Nat) : chN (l.take k) x ≤ k := by
 unfold chN
 have h := List.countP_le_length (l := l.take k) (p := fun s => decide (cmpE s x ≤ 0))
 have h2 : (l.take k).length ≤ k := List.length_take_le _ _
 omega
set_option maxHeartbeats 2000000 in
theorem child_any (A : Option Addr) (n c : Nat) (l : List En) (x : En) (w : World) (hr : Reads w w.heap.size 3 A n (vE l)) (hn : n ≤ 1000000) :
 Calls Tryz.prog 57 #[.slice A n c, x.agg] w (RetB w (.int .i64 (chN l x : Nat))) := by
 have hl : l.length = n := by have := hr.1; rw [vE_len] at this; omega
 have Hl := Lib.hid hl; clear hl
 have hnI : (n : Int) ≤ 1000000 := by omega
 have HT := Lib.hid fun k v (h : l[k]? = some v) => chN_take (x := x) h
 have HC := Lib.hid fun v W => compareE_any v x W
 have HLe := Lib.hid (chN_le l x)
 obtain ⟨s, p, q⟩ := x
 have hA : AtE (w.alloc (.cells #[.string s, .int .u32 p, .int .u16 q] 37)) w.heap.size ⟨s, p, q⟩ := AtE.new w ⟨s, p, q⟩ _
 have hb0 : Below w.heap.size w (w.alloc (.cells #[.string s, .int .u32 p, .int .u16 q] 37)) := ball (Below.refl _ _) _
 unfold En.agg at *
 simp only at *
 go_enter Tryz.func57, Tryz.ntmps57
 go_wp2
 obtain ⟨W0, hW0⟩ : ∃ W0, w.alloc (.cells #[.string s, .int .u32 p, .int .u16 q] 37) = W0 := ⟨_, rfl⟩
 rw [hW0] at hA hb0 ⊢
 clear hW0
 go_loopw [5, 10] (fun m i wr => ∃ k : Nat, k ≤ n ∧ i = .int .i64 k ∧ m = .int .i64 (chN (l.take k) ⟨s, p, q⟩ : Nat) ∧ Below W0.heap.size W0 wr) (fun _ i _ => n - (intOf i).toNat)
 case atStart => exact ⟨0, Nat.zero_le _, rfl, rfl, Below.refl _ _⟩
 case round =>
  obtain ⟨k, hk, rfl, rfl, hb⟩ := hrel
  have r0 : (0 : Int) ≤ (k : Int) := by omega
  have hbw := bto0 hb0 hb
  by_cases hlt : k < n
  · have r1 : (k : Int) < (n : Int) := by omega
    obtain ⟨ad, v, rfl, hab, hv, d0, d1, d2⟩ := (hr.below hbw).ent hlt
    have HS := Lib.hid (HT.out k v hv)
    have hle := HLe.out k
    have C := Lib.hid (HC.out v)
    obtain ⟨q0, q1, q2⟩ := hA.below hb
    generalize cmpE v ⟨s, p, q⟩ = d at *
    obtain ⟨t, x, y⟩ := v
    simp only at d0 d1 d2 C q0 q1 q2
    obtain ⟨T, hT⟩ : ∃ T, chN (l.take k) ⟨s, p, q⟩ = T := ⟨_, rfl⟩
    rw [hT] at HS hle ⊢
    clear hT hv
    have t0 : (0 : Int) ≤ (T : Int) := by omega
    have t1 : (T : Int) ≤ 1000000 := by omega
    have hbl := (cell_block q0)
    by_cases hd : d ≤ 0
    · rw [if_pos hd] at HS
      go_wp2_with fail
      refine (C.out _).mono ?_
      rintro e w1 ⟨rfl, hb1⟩
      go_wp2
      go_roundw
      case rel => exact ⟨k + 1, by omega, by go_num, val_int (by rw [HS.out]; omega), bto0 (ball hb _) hb1⟩
      case measure => simp [intOf]; omega
    · rw [if_neg hd] at HS
      have hd' : (0 : Int) < d := by omega
      go_wp2_with fail
      refine (C.out _).mono ?_
      rintro e w1 ⟨rfl, hb1⟩
      go_wp2
      go_roundw
      case rel => exact ⟨k + 1, by omega, by go_num, val_int (by rw [HS.out]; omega), bto0 (ball hb _) hb1⟩
      case measure => simp [intOf]; omega
  · obtain rfl : k = n := by omega
    have hT : Hid (chN (l.take k) ⟨s, p, q⟩ = chN l ⟨s, p, q⟩) := Lib.hid (by rw [List.take_of_length_le (by rw [Hl.out]; exact Nat.le_refl _)])
    go_wp2
    go_ret
    exact ⟨by rw [hT.out]; rfl, hbw⟩
end
end Go.Proofs.YtebobcbaloddaaaGreat
