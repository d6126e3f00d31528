/-
  Dk Yk Dl Dm Dn Yl Ym Zn Do Zo.
-/
import Derived.Test.YtebobcbaloddaaaGreatMoav
import Derived.Test.YtebobcbaloddaaaGreatMoal
import Derived.Test.YtebobcbaloddaaaGreatMoah
import Derived.Test.YtebobcbaloddaaaGreatMoay
import Derived.BigQuiet
import Derived.Deep.RegionHeld3
import Derived.Test.YtebobcbaloddaaaGreatMozz
namespace Go.Proofs.YtebobcbaloddaaaGreat
section
set_option linter.unusedSimpArgs false
set_option linter.unusedVariables false
open Go.RowKit
def hdOk (l : List UInt8) : Bool := l.length == 512 && l[1]? == some 0
def hdK (l : List UInt8) : Nat := (l.getD 0 0).toNat
def hdC (l : List UInt8) : Nat := beVal ((l.drop 2).take 2)
def hdN (l : List UInt8) : Nat := beVal ((l.drop 4).take 4)
def hdV (l : List UInt8) : Value := if hdOk l then .agg #[.int .u8 (hdK l : Int), .int .u16 (hdC l : Int), .int .u32 (hdN l : Int)] else .agg #[.int .u8 0, .int .u16 0, .int .u32 0]
def RetHd (w : World) (l : List UInt8) (e : Ending) (w' : World) : Prop := e = .returned (.tuple #[hdV l, .bool (hdOk l)]) ∧ Below w.heap.size w w'
theorem hdC_eq {l : List UInt8} {x y : UInt8} (h2 : l[2]? = some x) (h3 : l[3]? = some y) : hdC l = 256 * x.toNat + y.toNat := by
 unfold hdC
 have e : (l.drop 2).take 2 = [x, y] := by
  have hl := lt_of_at h3
  rw [List.drop_eq_getElem_cons (by omega), List.drop_eq_getElem_cons (by omega)]
  rw [List.getElem?_eq_getElem (by omega)] at h2 h3
  injection h2 with h2; injection h3 with h3
  simp [h2, h3]
 rw [e]
 simp [beVal]
theorem hdN_take {l : List UInt8} {j : Nat} {b : UInt8} (h : l[4 + j]? = some b) : beVal ((l.drop 4).take (j + 1)) = 256 * beVal ((l.drop 4).take j) + b.toNat :=
 beVal_take (by rw [List.getElem?_drop]; exact h)
set_option maxRecDepth 100000 in
set_option maxHeartbeats 2000000 in
theorem dget_any (A : Option Addr) (n c B : Nat) (l : List UInt8) (w : World) (hr : Reads w B 1 A n (bL l)) (hB : B ≤ w.heap.size) (hn : n ≤ 1000000000) :
 Calls Tryz.prog 120 #[.slice A n c] w (RetHd w l) := by
 have hl := hr.bytes_len
 by_cases h5 : n = 512
 rotate_left
 · have ho : hdOk l = false := by unfold hdOk; rw [hl]; simp [h5]
   have hv : hdV l = .agg #[.int .u8 0, .int .u16 0, .int .u32 0] := by unfold hdV; rw [ho]; rfl
   have HH := Lib.hid (And.intro ho hv)
   have e1 : (n == 512) = false := by simpa using h5
   have e2 : ((n : Int) == 512) = false := by simp; omega
   have e3 : (n != 512) = true := by simpa using h5
   have e4 : ((n : Int) != 512) = true := by simp; omega
   clear ho hv hr hl h5
   go_enter Tryz.func120, Tryz.ntmps120
   go_wp2
   exact bodyPost_ret (v := .tuple #[.agg #[.int .u8 0, .int .u16 0, .int .u32 0], .bool false]) (by simp [results, Tryz.results120, go_sem]) rfl ⟨by rw [HH.out.1, HH.out.2], ball (Below.refl _ _) _⟩
 · subst h5
   obtain ⟨ad, x1, rfl, hb, hx1, c1⟩ := hr.byte (k := 1) (by omega)
   have hby : ∀ i, i < 512 → ∃ b, l[i]? = some b ∧ w.cell? (ad.add i) = some (.int .u8 (b.toNat : Int)) := by
    intro i hi
    obtain ⟨ad', b, e, _, h1, h2⟩ := hr.byte (k := i) hi
    injection e with e
    subst e
    exact ⟨b, h1, h2⟩
   have da : ∀ i o, i < 512 → (w.alloc o).cell? (ad.add i) = w.cell? (ad.add i) := fun i o _ => World.cell?_alloc_lt w o _ (by rw [block_of_add]; omega)
   have d1 : ∀ o, (w.alloc o).cell? ⟨ad.block, ad.off + 1, none⟩ = some (.int .u8 (x1.toNat : Int)) := fun o => (da 1 o (by omega)).trans c1
   by_cases hz : x1 = 0
   rotate_left
   · have hz' : ¬ x1.toNat = 0 := fun e => hz (UInt8.toNat_inj.1 e)
     have ho : hdOk l = false := by unfold hdOk; rw [hx1]; simp [hz]
     have hv : hdV l = .agg #[.int .u8 0, .int .u16 0, .int .u32 0] := by unfold hdV; rw [ho]; rfl
     have HH := Lib.hid (And.intro ho hv)
     have e1 : (x1.toNat == 0) = false := by simpa using hz'
     have e2 : ((x1.toNat : Int) == 0) = false := by simp; omega
     have e3 : (x1.toNat != 0) = true := by simpa using hz'
     have e4 : ((x1.toNat : Int) != 0) = true := by simp; omega
     clear ho hv hr hl hby da c1 hx1 hz hz'
     go_enter Tryz.func120, Tryz.ntmps120
     go_wp2
     exact bodyPost_ret (v := .tuple #[.agg #[.int .u8 0, .int .u16 0, .int .u32 0], .bool false]) (by simp [results, Tryz.results120, go_sem]) rfl ⟨by rw [HH.out.1, HH.out.2], ball (Below.refl _ _) _⟩
   · subst hz
     have ho : hdOk l = true := by unfold hdOk; rw [hl, hx1]; rfl
     obtain ⟨x0, h0, c0⟩ := hby 0 (by omega)
     obtain ⟨x2, h2, c2⟩ := hby 2 (by omega)
     obtain ⟨x3, h3, c3⟩ := hby 3 (by omega)
     have hK : hdK l = x0.toNat := by unfold hdK; rw [List.getD_eq_getElem?_getD, h0]; rfl
     have hC := hdC_eq h2 h3
     have hv : hdV l = .agg #[.int .u8 (x0.toNat : Int), .int .u16 ((256 * x2.toNat + x3.toNat : Nat) : Int), .int .u32 (hdN l : Int)] := by unfold hdV; rw [ho, if_pos rfl, hK, hC]
     have HH := Lib.hid (And.intro ho hv)
     have d0 : ∀ o, (w.alloc o).cell? ad = some (.int .u8 (x0.toNat : Int)) := fun o => by have := (da 0 o (by omega)).trans c0; simpa [Addr.add] using this
     have d2 : ∀ o, (w.alloc o).cell? ⟨ad.block, ad.off + 2, none⟩ = some (.int .u8 (x2.toNat : Int)) := fun o => (da 2 o (by omega)).trans c2
     have d3 : ∀ o, (w.alloc o).cell? ⟨ad.block, ad.off + 3, none⟩ = some (.int .u8 (x3.toNat : Int)) := fun o => (da 3 o (by omega)).trans c3
     have dd : ∀ (p : Addr) v, (∀ o, (w.alloc o).cell? p = some v) → p.block < w.heap.size → ∀ o o', ((w.alloc o).alloc o').cell? p = some v := fun p v h hp o o' => (World.cell?_alloc_lt _ o' p (by simp; omega)).trans (h o)
     have d0' := dd _ _ d0 (by omega)
     have d2' := dd _ _ d2 (by show ad.block < _; omega)
     have d3' := dd _ _ d3 (by show ad.block < _; omega)
     clear dd
     have o16 := or_u16 x2 x3
     obtain ⟨C, hC'⟩ : ∃ C : Nat, 256 * x2.toNat + x3.toNat = C := ⟨_, rfl⟩
     rw [hC'] at o16 HH
     clear hC'
     have b3 : (x3.toNat : Int) ≤ 255 := by have := x3.toNat_lt; omega
     have b2 : (x2.toNat : Int) ≤ 255 := by have := x2.toNat_lt; omega
     have HY := Lib.hid hby
     clear ho hv hby h0 h2 h3 c0 c1 c2 c3 hK hC da hx1
     go_enter Tryz.func120, Tryz.ntmps120
     go_wp2
     go_region
     go_wp2
     have XR := ((Blk.new w 184 #[.int .u8 0, .int .u16 0, .int .u32 0]).alloc (.cells #[.int .u8 (x0.toNat : Int), .int .u16 (C : Int), .int .u32 0] 184)).drew
     have XH : Blk ((w.alloc (.cells #[.int .u8 0, .int .u16 0, .int .u32 0] 184)).alloc (.cells #[.int .u8 (x0.toNat : Int), .int .u16 (C : Int), .int .u32 0] 184)).drew (w.heap.size + 1) 184 #[.int .u8 (x0.toNat : Int), .int .u16 (C : Int), .int .u32 0] := (Blk.newAt (by simp)).drew
     have hbw : Below w.heap.size w ((w.alloc (.cells #[.int .u8 0, .int .u16 0, .int .u32 0] 184)).alloc (.cells #[.int .u8 (x0.toNat : Int), .int .u16 (C : Int), .int .u32 0] 184)).drew := (ball (ball (Below.refl _ _) _) _).drew
     obtain ⟨W0, hW0⟩ : ∃ W0, ((w.alloc (.cells #[.int .u8 0, .int .u16 0, .int .u32 0] 184)).alloc (.cells #[.int .u8 (x0.toNat : Int), .int .u16 (C : Int), .int .u32 0] 184)).drew = W0 := ⟨_, rfl⟩
     rw [hW0] at XR XH hbw ⊢
     clear hW0 d0 d2 d3 d0' d2' d3' o16 d1 b2 b3
     go_loopw [30] (fun iv wr => ∃ j : Nat, j ≤ 4 ∧ iv = .int .i64 j ∧ Blk wr (w.heap.size + 1) 184 #[.int .u8 (x0.toNat : Int), .int .u16 (C : Int), .int .u32 ((beVal ((l.drop 4).take j) : Nat) : Int)] ∧ Blk wr w.heap.size 184 #[.int .u8 0, .int .u16 0, .int .u32 0] ∧ Below w.heap.size w wr) (fun iv _ => 4 - (intOf iv).toNat)
     case atStart => exact ⟨0, by omega, rfl, XH, XR, hbw⟩
     case round =>
      clear XH XR hbw
      obtain ⟨j, hj, rfl, hX, hR, hbr⟩ := hrel
      have q0 : (0 : Int) ≤ (j : Int) := by omega
      by_cases hlt : j < 4
      · have q1 : (j : Int) < 4 := by omega
        obtain ⟨b, hb4, cb⟩ := HY.out (4 + j) (by omega)
        have hN := Lib.hid (hdN_take hb4)
        have cb' : wr.cell? (ad.add (4 + j)) = some (.int .u8 (b.toNat : Int)) := (hbr.cell (p := ad.add (4 + j)) (by rw [block_of_add]; omega)).trans cb
        have hU := beVal_lt_of (l := (l.drop 4).take j) (n := 3) (by rw [List.length_take]; omega)
        have hor := Lib.hid (or_u32 (beVal ((l.drop 4).take j)) b (by omega))
        obtain ⟨U, hUe⟩ : ∃ U, beVal ((l.drop 4).take j) = U := ⟨_, rfl⟩
        rw [hUe] at hX hN hor hU
        have c2 := hX.cell 2
        have f2 := hX.frozen 2
        have xb : (b.toNat : Int) ≤ 255 := by have := b.toNat_lt; omega
        have xb0 : (0 : Int) ≤ (b.toNat : Int) := by omega
        have HX := Lib.hid hX
        have hs4 := Lib.hid (hX.set_ 2 (.int .u32 (bits .or .u32 (IntKind.u32.wrap ((U : Int) * 256)) (b.toNat : Int)))).drew
        clear hb4 cb hU hUe hX
        go_wp2
        go_region
        go_wp2
        go_roundw
        case rel => exact ⟨j + 1, by omega, by go_num, by rw [hN.out, ← hor.out]; exact hs4.out, (hR.far (by simp) _).drew, (hbr.setCell (by simp) _).drew⟩
        case measure => simp [intOf]; omega
      · obtain rfl : j = 4 := by omega
        have c0 := hX.cell 0; have c1 := hX.cell 1; have c2 := hX.cell 2
        have r0 := hR.cell 0; have r1 := hR.cell 1; have r2 := hR.cell 2
        have f0 := hR.frozen 0; have f1 := hR.frozen 1; have f2 := hR.frozen 2
        have HU : Hid (hdN l = beVal ((l.drop 4).take 4)) := Lib.hid rfl
        go_wp2
        exact bodyPost_ret (v := .tuple #[.agg #[.int .u8 (x0.toNat : Int), .int .u16 (C : Int), .int .u32 ((beVal ((l.drop 4).take 4) : Nat) : Int)], .bool true]) (by simp [results, Tryz.results120, go_sem, r0, r1, r2]) rfl ⟨by rw [HH.out.1, HH.out.2, HU.out], by repeat (first | exact hbr | refine Below.setCell ?_ (show w.heap.size ≤ w.heap.size from Nat.le_refl _) _)⟩
end
end Go.Proofs.YtebobcbaloddaaaGreat
namespace Go.Proofs.YtebobcbaloddaaaGreat
section
set_option linter.unusedSimpArgs false
set_option linter.unusedVariables false
open Go.RowKit
end
end Go.Proofs.YtebobcbaloddaaaGreat
namespace Go.Proofs.YtebobcbaloddaaaGreat
section
set_option linter.unusedSimpArgs false
set_option linter.unusedVariables false
open Go.RowKit
theorem str_get {l : List UInt8} {j : Nat} {b : UInt8} (h : j < (str l).size) (hb : l[j]? = some b) : (str l)[j] = b := by
 have := str_at l j h
 rw [hb] at this
 exact (Option.some.inj this).symm
theorem val_step (U : Nat) (b : UInt8) (hU : U < 256 ^ 6) : IntKind.u64.wrap (IntKind.u64.wrap (256 * (U : Int)) + IntKind.u64.wrap (b.toNat : Int)) = ((256 * U + b.toNat : Nat) : Int) := by
 have hb := b.toNat_lt
 rw [IntKind.wrap_u64, IntKind.wrap_u64, IntKind.wrap_u64]
 omega
set_option maxRecDepth 100000 in
set_option maxHeartbeats 1000000 in
theorem dval_any (l : List UInt8) (hl : l.length ≤ 7) (w : World) : Calls Tryz.prog 117 #[.string (str l)] w fun e w' => e = .returned (.int .u64 (beVal l)) ∧ w = w' := by
 have hz : (str l).size ≤ 7 := by rw [str_size]; exact hl
 have hzl := Lib.hid (str_size l)
 go_enter Tryz.func117, Tryz.ntmps117
 go_wp2
 go_loop [3, 4] (fun uv iv => ∃ j : Nat, j ≤ l.length ∧ iv = .int .i64 j ∧ uv = .int .u64 ((beVal (l.take j) : Nat) : Int)) (fun _ iv => 10 - (intOf iv).toNat)
 case atStart => exact ⟨0, by omega, rfl, rfl⟩
 case round =>
  obtain ⟨j, hj, rfl, rfl⟩ := hrel
  have q0 : (0 : Int) ≤ (j : Int) := by omega
  by_cases hlt : j < (str l).size
  · have hlt' : j < l.length := by rw [← hzl.out]; exact hlt
    have hb : l[j]? = some l[j] := List.getElem?_eq_getElem hlt'
    have hg := Lib.hid (str_get hlt hb)
    have hbt := Lib.hid (beVal_take hb)
    have hU := beVal_lt_of (l := l.take j) (n := 6) (by rw [List.length_take]; omega)
    obtain ⟨b, hbe⟩ : ∃ b, l[j] = b := ⟨_, rfl⟩
    rw [hbe] at hg hbt
    have hor := Lib.hid (val_step (beVal (l.take j)) b hU)
    obtain ⟨U, hUe⟩ : ∃ U, beVal (l.take j) = U := ⟨_, rfl⟩
    rw [hUe] at hbt hor ⊢
    clear hbe hUe hU hb
    go_wp2
    go_round
    case rel => exact ⟨j + 1, by omega, by go_num, val_int (by rw [hg.out, hbt.out]; exact hor.out)⟩
    case measure => simp [intOf]; omega
  · have h1 : j = l.length := by have := hzl.out; omega
    have h2 : Hid (l.take j = l) := Lib.hid (List.take_of_length_le (by omega))
    rw [h2.out]
    clear h1
    go_wp2
    go_ret
    exact ⟨rfl, rfl⟩
end
end Go.Proofs.YtebobcbaloddaaaGreat
namespace Go.Proofs.YtebobcbaloddaaaGreat
section
set_option linter.unusedSimpArgs false
set_option linter.unusedVariables false
set_option linter.unusedSimpArgs false
set_option linter.unusedVariables false
open Go.RowKit
def z504 : List UInt8 := List.replicate 504 0
def head0 (k : UInt8) (c n : Nat) : List UInt8 := [k, 0] ++ be 2 c ++ be 4 n ++ z504
theorem head0_eq (k : UInt8) (c n : Nat) : head0 k c n = headL k c n := by
 unfold head0 headL headP z504
 rw [List.take_of_length_le (by rw [be_len]; omega)]
end
end Go.Proofs.YtebobcbaloddaaaGreat
namespace Go.Proofs.YtebobcbaloddaaaGreat
section
set_option linter.unusedSimpArgs false
set_option linter.unusedVariables false
set_option linter.unusedSimpArgs false
set_option linter.unusedVariables false
open Go.RowKit
set_option maxRecDepth 100000 in
set_option maxHeartbeats 2000000 in
theorem rhget_any (l : List UInt8) (hn : l.length ≤ 1000000000) (w : World) : Calls Tryz.prog 116 #[.string (str l)] w (RetHd w l) := by
 have hz := str_size l
 by_cases h5 : l.length = 512
 rotate_left
 · have ho : hdOk l = false := by unfold hdOk; simp [h5]
   have hv : hdV l = .agg #[.int .u8 0, .int .u16 0, .int .u32 0] := by unfold hdV; rw [ho]; rfl
   have HH := Lib.hid (And.intro ho hv)
   have e1 : ((str l).size == 512) = false := by rw [hz]; simpa using h5
   have e2 : (((str l).size : Int) == 512) = false := by rw [hz]; simp; omega
   have e3 : ((str l).size != 512) = true := by rw [hz]; simpa using h5
   have e4 : (((str l).size : Int) != 512) = true := by rw [hz]; simp; omega
   clear ho hv h5 hz
   go_enter Tryz.func116, Tryz.ntmps116
   go_wp2
   exact bodyPost_ret (v := .tuple #[.agg #[.int .u8 0, .int .u16 0, .int .u32 0], .bool false]) (by simp [results, Tryz.results116, go_sem]) rfl ⟨by rw [HH.out.1, HH.out.2], ball (Below.refl _ _) _⟩
 · have hz5 : (str l).size = 512 := by rw [hz, h5]
   have g1 : 1 < (str l).size := by omega
   have g0 : 0 < (str l).size := by omega
   have hx1 : l[1]? = some l[1] := List.getElem?_eq_getElem (by omega)
   have hx0 : l[0]? = some l[0] := List.getElem?_eq_getElem (by omega)
   have hg1 := str_get g1 hx1
   have hg0 := str_get g0 hx0
   obtain ⟨x1, hx1e⟩ : ∃ x, l[1] = x := ⟨_, rfl⟩
   obtain ⟨x0, hx0e⟩ : ∃ x, l[0] = x := ⟨_, rfl⟩
   rw [hx1e] at hx1 hg1
   rw [hx0e] at hx0 hg0
   by_cases hz1 : x1 = 0
   rotate_left
   · have hz' : ¬ x1.toNat = 0 := fun e => hz1 (UInt8.toNat_inj.1 e)
     have ho : hdOk l = false := by unfold hdOk; rw [hx1]; simp [hz1]
     have hv : hdV l = .agg #[.int .u8 0, .int .u16 0, .int .u32 0] := by unfold hdV; rw [ho]; rfl
     have HH := Lib.hid (And.intro ho hv)
     have e1 : ((str l)[1].toNat == 0) = false := by rw [hg1]; simpa using hz'
     have e2 : (((str l)[1].toNat : Int) == 0) = false := by rw [hg1]; simp; omega
     have e3 : ((str l)[1].toNat != 0) = true := by rw [hg1]; simpa using hz'
     have e4 : (((str l)[1].toNat : Int) != 0) = true := by rw [hg1]; simp; omega
     clear ho hv hx1 hx0 hg1 hg0 hz1 hz' hz hx1e hx0e
     go_enter Tryz.func116, Tryz.ntmps116
     go_wp2
     exact bodyPost_ret (v := .tuple #[.agg #[.int .u8 0, .int .u16 0, .int .u32 0], .bool false]) (by simp [results, Tryz.results116, go_sem]) rfl ⟨by rw [HH.out.1, HH.out.2], ball (Below.refl _ _) _⟩
   · subst hz1
     have ho : hdOk l = true := by unfold hdOk; rw [h5, hx1]; rfl
     have hK : hdK l = x0.toNat := by unfold hdK; rw [List.getD_eq_getElem?_getD, hx0]; rfl
     have e0 : (str l)[1].toNat = 0 := by rw [hg1]; rfl
     have e00 : (((str l)[0].toNat : Nat) : Int) = (x0.toNat : Int) := by rw [hg0]
     have sl1 : ∀ W, (Instr.slice 9 (.string (str l)) (some (.int .i64 2)) (some (.int .i64 4)) none).run Tryz.prog W = .ok (.string (str ((l.drop 2).take 2))) W := cut_mid (P := Tryz.prog) Tryz.underlying9 l ((l.drop 2).take 2) .i64 .i64 2 4 (by omega) (by omega) (by omega) rfl
     have sl2 : ∀ W, (Instr.slice 9 (.string (str l)) (some (.int .i64 4)) (some (.int .i64 8)) none).run Tryz.prog W = .ok (.string (str ((l.drop 4).take 4))) W := cut_mid (P := Tryz.prog) Tryz.underlying9 l ((l.drop 4).take 4) .i64 .i64 4 8 (by omega) (by omega) (by omega) rfl
     have VC := Lib.hid fun W => dval_any ((l.drop 2).take 2) (by rw [List.length_take]; omega) W
     have VN := Lib.hid fun W => dval_any ((l.drop 4).take 4) (by rw [List.length_take]; omega) W
     have hCb := beVal_lt_of (l := (l.drop 2).take 2) (n := 2) (by rw [List.length_take]; omega)
     have hNb := beVal_lt_of (l := (l.drop 4).take 4) (n := 4) (by rw [List.length_take]; omega)
     have hv : hdV l = .agg #[.int .u8 (x0.toNat : Int), .int .u16 ((beVal ((l.drop 2).take 2) : Nat) : Int), .int .u32 ((beVal ((l.drop 4).take 4) : Nat) : Int)] := by unfold hdV; rw [ho, if_pos rfl, hK]; rfl
     have HH := Lib.hid (And.intro ho hv)
     obtain ⟨C, hC⟩ : ∃ C, beVal ((l.drop 2).take 2) = C := ⟨_, rfl⟩
     obtain ⟨Nn, hNn⟩ : ∃ N, beVal ((l.drop 4).take 4) = N := ⟨_, rfl⟩
     rw [hC] at VC hCb HH
     rw [hNn] at VN hNb HH
     have hCI : (C : Int) < 65536 := by omega
     have hNI : (Nn : Int) < 4294967296 := by omega
     have wC : IntKind.u16.wrap (C : Int) = (C : Int) := by simp [IntKind.wrap, IntKind.bits, IntKind.signed]; omega
     have wN : IntKind.u32.wrap (Nn : Int) = (Nn : Int) := by simp [IntKind.wrap, IntKind.bits, IntKind.signed]; omega
     clear ho hv hx1 hx0 hg1 hg0 hz hx1e hx0e hC hNn hCb hNb hK h5 hCI hNI
     go_enter Tryz.func116, Tryz.ntmps116
     go_wp2
     refine wp_region_held_drew (S := (fun w' => w.heap.size ≤ w'.heap.size)) (by kernel_rfl) (by simp) (fun hHeld => ?_)
     try dsimp only at hHeld
     refine zt 0 ?_ rfl (by kernel_rfl) (fun _ _ _ h => h) ⟨rfl, ?_⟩ hHeld ?_
     rotate_left
     focus (intro wx hSw; (try dsimp only at hSw); (try go_split_ands); go_simp; (try with_reducible rfl))
     try simp only [Act.put, za1, za2, za3, za4, za5, za6]
     refine zt 1 ?_ rfl (by kernel_rfl) (fun _ _ _ h => h) ⟨rfl, ?_⟩ hHeld ?_
     rotate_left
     focus (intro wx hSw; (try dsimp only at hSw); (try go_split_ands); go_simp; (try with_reducible rfl))
     try simp only [Act.put, za1, za2, za3, za4, za5, za6]
     refine zt 2 ?_ rfl (by kernel_rfl) (fun _ _ _ h => h) ⟨rfl, ?_⟩ hHeld ?_
     rotate_left
     focus (intro wx hSw; (try dsimp only at hSw); (try go_split_ands); go_simp; (try with_reducible rfl))
     try simp only [Act.put, za1, za2, za3, za4, za5, za6]
     refine zt 3 ?_ rfl (by kernel_rfl) (fun _ _ _ h => h) ⟨rfl, ?_⟩ hHeld ?_
     rotate_left
     focus (intro wx hSw; (try dsimp only at hSw); (try go_split_ands); go_simp; (try with_reducible rfl))
     try simp only [Act.put, za1, za2, za3, za4, za5, za6]
     refine zt 6 ?_ rfl (by kernel_rfl) (fun _ _ _ h => h) ⟨rfl, ?_⟩ hHeld ?_
     rotate_left
     focus (intro wx hSw; (try dsimp only at hSw); (try go_split_ands); go_simp; (try with_reducible rfl))
     try simp only [Act.put, za1, za2, za3, za4, za5, za6]
     refine zt 7 ?_ rfl (by kernel_rfl) (fun _ _ _ h => h) ⟨rfl, ?_⟩ hHeld ?_
     rotate_left
     focus (intro wx hSw; (try dsimp only at hSw); (try go_split_ands); go_simp; (try with_reducible rfl))
     try simp only [Act.put, za1, za2, za3, za4, za5, za6]
     refine wpAnyH_ready (rs := [4]) (by kernel_rfl) (by simp) (AllReadyH.cons rfl (fun K hK => ?_) AllReadyH.nil)
     go_simp
     (go_at_call 117; (with_reducible refine (VC.out _).mono ?_); rintro e w' ⟨rfl, rfl⟩)
     go_wp2_with fail
     refine hK.out _ _ ?_ (fun hHeld => ?_)
     · ((try dsimp only); (try dsimp only at hHeld); (first | exact hHeld | (simp; done) | (simp; omega)))
     clear hK K
     try dsimp only at hHeld
     try simp only [Act.put, za1, za2, za3, za4, za5, za6]
     refine zt 5 ?_ rfl (by kernel_rfl) (fun _ _ _ h => h) ⟨rfl, ?_⟩ hHeld ?_
     rotate_left
     focus (intro wx hSw; (try dsimp only at hSw); (try go_split_ands); go_simp; (try with_reducible rfl))
     try simp only [Act.put, za1, za2, za3, za4, za5, za6]
     refine wpAnyH_ready (rs := [8]) (by kernel_rfl) (by simp) (AllReadyH.cons rfl (fun K hK => ?_) AllReadyH.nil)
     go_simp
     (go_at_call 117; (with_reducible refine (VN.out _).mono ?_); rintro e w' ⟨rfl, rfl⟩)
     go_wp2_with fail
     refine hK.out _ _ ?_ (fun hHeld => ?_)
     · ((try dsimp only); (try dsimp only at hHeld); (first | exact hHeld | (simp; done) | (simp; omega)))
     clear hK K
     try dsimp only at hHeld
     try simp only [Act.put, za1, za2, za3, za4, za5, za6]
     refine zt 9 ?_ rfl (by kernel_rfl) (fun _ _ _ h => h) ⟨rfl, ?_⟩ hHeld ?_
     rotate_left
     focus (intro wx hSw; (try dsimp only at hSw); (try go_split_ands); go_simp; (try with_reducible rfl))
     try simp only [Act.put, za1, za2, za3, za4, za5, za6]
     refine zt 10 ?_ rfl (by kernel_rfl) (fun _ _ _ h => h) ⟨rfl, ?_⟩ hHeld ?_
     rotate_left
     focus (intro wx hSw; (try dsimp only at hSw); (try go_split_ands); go_simp; (try with_reducible rfl))
     try simp only [Act.put, za1, za2, za3, za4, za5, za6]
     refine wpAnyH_ready (rs := [11]) (by kernel_rfl) (by simp) (AllReadyH.cons rfl (fun K hK => ?_) AllReadyH.nil)
     go_simp
     refine hK.out _ _ ?_ (fun hHeld => ?_)
     · ((try dsimp only); (try dsimp only at hHeld); (first | exact hHeld | (simp; done) | (simp; omega)))
     clear hK K
     try dsimp only at hHeld
     try simp only [Act.put, za1, za2, za3, za4, za5, za6]
     refine zt 12 ?_ rfl (by kernel_rfl) (fun _ _ _ h => h) ⟨rfl, ?_⟩ hHeld ?_
     rotate_left
     focus (intro wx hSw; (try dsimp only at hSw); (try go_split_ands); go_simp; (try with_reducible rfl))
     try simp only [Act.put, za1, za2, za3, za4, za5, za6]
     refine wpAnyH_done (by kernel_rfl) ?_ _
     go_wp2
     exact bodyPost_ret (v := .tuple #[.agg #[.int .u8 (x0.toNat : Int), .int .u16 (C : Int), .int .u32 (Nn : Int)], .bool true]) (by simp [results, Tryz.results116, go_sem]) rfl ⟨by rw [HH.out.1, HH.out.2], by with_reducible repeat (first | exact Below.refl _ _ | refine Below.drew ?_ | refine ball ?_ _)⟩
end
end Go.Proofs.YtebobcbaloddaaaGreat
