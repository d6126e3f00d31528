/-
  Several texts in one: IK IL IM IO.
-/
import Derived.Test.YtdimkeoncgjegaaMfay
/-
  Heap: the reference's H: next, by what is free.
-/
namespace Go.Proofs.Ytdimkeoncgjegaa
section
set_option linter.unusedSimpArgs false
set_option linter.unusedVariables false
open Go.RowKit Go.Maps

/-- What next leaves: another page, or none is free. -/
def RetNx (w : World) (h : Hh) (ps : List (List UInt8)) (T : List Bool) (rs : List (List UInt8)) (e : Ending) (w' : World) : Prop :=
  (∃ i, freeI T = some i ∧ i < h.n ∧ RetNy w h i (if h.began = true then h.first else i) (if h.began = true then ps.set h.at_ (layL i rs) else ps) (if h.began = true then (T.set i true).set h.at_ true else T.set i true) e w') ∨
  (freeI T = none ∧ RetHx w h 7 (if h.began = true then ps.set h.at_ (layL h.next rs) else ps) (if h.began = true then T.set h.at_ true else T) rs e w')
theorem hnext_any {w : World} {h : Hh} {ps : List (List UInt8)} {T : List Bool} {rs : List (List UInt8)} (hi : HhIn w h ps T rs) (hn : h.n ≤ 10000) (hb : h.began = true → h.at_ < h.n ∧ Fits rs ∧ h.next < 4294967296) :
    Calls Try.prog 29 #[.agg h.arr] w (RetNx w h ps T rs) := by
  have hT : T.length = h.n := by have := hi.r2.1; rw [tL_len] at this; omega
  rcases freeI_cases T with ⟨i, f1, f2, f3⟩ | ⟨f1, f2⟩
  · have hin : i < h.n := by rw [← hT]; exact lt_of_at f2
    cases hbg : h.began with
    | false =>
      refine (hnext_free0 hi hn i f2 f3 hbg).mono fun e w' H => .inl ⟨i, f1, hin, ?_⟩
      simpa [hbg] using H
    | true =>
      obtain ⟨b1, b2, b3⟩ := hb hbg
      refine (hnext_free1 hi hn i f2 f3 hbg b1 b2 (by omega)).mono fun e w' H => .inl ⟨i, f1, hin, ?_⟩
      simpa [hbg] using H
  · have hj : ∀ j : Nat, j < h.n → T[j]? = some true := fun j h1 => f2 j (by omega)
    cases hbg : h.began with
    | false =>
      refine (hnext_full0 hi hn hj hbg).mono fun e w' H => .inr ⟨f1, ?_⟩
      simpa [hbg] using H
    | true =>
      obtain ⟨b1, b2, b3⟩ := hb hbg
      refine (hnext_full1 hi hn hj hbg b1 b2 b3).mono fun e w' H => .inr ⟨f1, ?_⟩
      simpa [hbg] using H
end
end Go.Proofs.Ytdimkeoncgjegaa
/-
  Heap: records as texts.
-/
namespace Go.Proofs.Ytdimkeoncgjegaa
section
set_option linter.unusedSimpArgs false
set_option linter.unusedVariables false
open Go.RowKit Go.Maps

def RetTx (w : World) (l : List (List UInt8)) (e : Ending) (w' : World) : Prop :=
  ∃ A c, e = .returned (.slice A l.length c) ∧ w'.ownsRow w.heap.size 9 1 (.slice A l.length c) l.length (sL l) ∧ Below w.heap.size w w'
set_option maxRecDepth 100000 in
set_option maxHeartbeats 2000000 in
theorem texts_any {w : World} {A : Option Addr} {m c : Nat} {rows : List Rw} (hr : RRs w w.heap.size A m rows) (hm : m ≤ 100000) :
    Calls Try.prog 12 #[.slice A m c] w (RetTx w (rows.map Rw.l)) := by
  obtain ⟨i0, hi0, hz0, hs0, hy0⟩ := int_info8 Try.infoS
  have mI : (m : Int) ≤ 100000 := by omega
  have hlen := hr.len
  have HR := Lib.hid hr
  clear hr
  have hown : (w.alloc (.cells #[] 9)).ownsRow w.heap.size 9 1 (.slice (some ⟨w.heap.size, 0, none⟩) 0 0) 0 [] := by
    have := own_empty w 9 1 (g := w.heap.size) rfl
    simpa using this
  have hbel := ball (Below.refl w.heap.size w) (.cells #[] 9)
  have H0 := Lib.hid (And.intro hown hbel)
  clear hown hbel
  go_enter Try.func12, Try.ntmps12
  go_wp2_with fail
  go_loopw [3, 5, 9] (fun u3 u5 u9 wr => ∃ (k : Nat) (A3 : Option Addr) (c3 : Nat), u3 = .slice A3 k c3 ∧ u9 = .int .i64 k ∧ k ≤ m ∧ wr.ownsRow w.heap.size 9 1 (.slice A3 k c3) k (sL ((rows.map Rw.l).take k)) ∧ Below w.heap.size w wr) (fun _ _ u9 _ => m - (intOf u9).toNat)
  case atStart => exact ⟨0, _, 0, rfl, rfl, by omega, H0.out.1, H0.out.2⟩
  case round =>
    obtain ⟨k, A3, c3, rfl, rfl, hk, ho, hb⟩ := hrel
    have k0 : (0 : Int) ≤ (k : Int) := by omega
    by_cases hlt : k < m
    · have k1 : (k : Int) < (m : Int) := by omega
      obtain ⟨ad, r, rfl, had, hrow, hcell, hrc, hrm, hrd⟩ := (HR.out.below hb).row hlt
      have cv := hrd.cnv (c := r.c)
      have HF := Lib.hid (And.intro ho (And.intro hb hrow))
      have hz := hb.size
      clear ho hb hrow hrd hrc hrm
      go_wp2_with (at_builtin; refine wpList_push1 rfl (.tmp 13) (.tmp 16) 29 rfl w.heap.size 9 i0 (.string ⟨#[]⟩) 16 Try.underlying29 hi0 hz0 hs0 hy0 rfl _ k (sL ((rows.map Rw.l).take k)) (.string (str r.l)) rfl HF.out.1 _ rfl rfl rfl (by omega) (by omega) hz ?_; intro v5 w5 ho5 hg5; obtain ⟨A5, c5, rfl, hc5⟩ := own_form ho5; have b5 := below_grown HF.out.1 (Nat.le_refl _) hz hg5 HF.out.2.1)
      go_roundw
      case rel => exact ⟨k + 1, A5, c5, rfl, by go_num, by omega, by rw [List.take_add_one, List.getElem?_map, HF.out.2.2]; unfold sL; rw [List.map_append]; exact ho5, b5⟩
      case measure => simp [intOf]; omega
    · obtain rfl : m = k := by omega
      have HF := Lib.hid (And.intro ho hb)
      clear ho hb
      go_wp2
      go_ret
      have ho := HF.out.1
      have e : (rows.map Rw.l).take m = rows.map Rw.l := List.take_of_length_le (by rw [List.length_map]; omega)
      rw [e] at ho
      have hl : (rows.map Rw.l).length = m := by rw [List.length_map]; omega
      exact ⟨A3, c3, by rw [hl]; rfl, by rw [hl]; exact ho, HF.out.2⟩
end
end Go.Proofs.Ytdimkeoncgjegaa
/-
  HeapFills' same: the disk shows the reference's.
-/
namespace Go.Proofs.Ytdimkeoncgjegaa
section
set_option linter.unusedSimpArgs false
set_option linter.unusedVariables false
open Go.RowKit

set_option maxRecDepth 100000 in
set_option maxHeartbeats 2000000 in
theorem same9_any {w : World} {g gb gt n : Nat} {ps : List (List UInt8)} {T : List Bool} {v : Value} (hd : DP w g gb gt n ps T) (hv : RD w w.heap.size n v ps T) (hn : n ≤ 5000) (h1n : 1 ≤ n) :
    Calls Try.prog 13 #[.pointer (some ⟨g, 0, none⟩), v] w (RetB w (.bool true)) := by
  obtain ⟨A, c, A2, c2, rfl, hr1, hr2, hc1, hc2⟩ := hv
  have hl := hd.lts
  have hX := Blk.new w 32 #[.slice A n c, .slice A2 n c2]
  have hb := ball (Below.refl w.heap.size w) (.cells #[.slice A n c, .slice A2 n c2] 32)
  have hz : (w.alloc (.cells #[.slice A n c, .slice A2 n c2] 32)).heap.size = w.heap.size + 1 := by simp
  go_enter Try.func13, Try.ntmps13
  go_wp2_with fail
  obtain ⟨WA, hW⟩ : ∃ W, (w.alloc (.cells #[.slice A n c, .slice A2 n c2] 32)) = W := ⟨_, rfl⟩
  rw [hW] at hX hb hz ⊢
  clear hW
  have hdA := hd.below hb hl.1 hl.2.1 hl.2.2
  have hvA : RD WA w.heap.size n (.agg #[.slice A n c, .slice A2 n c2]) ps T := ⟨A, c, A2, c2, rfl, hr1.below hb, hr2.below hb, hc1, hc2⟩
  have hzz : w.heap.size ≤ WA.heap.size := by omega
  have hlA := hdA.lts
  have LF := Lib.hid fun W (hW : Below WA.heap.size WA W) => left_any (hdA.below hW hlA.1 hlA.2.1 hlA.2.2) (by omega)
  have RF := Lib.hid fun W (hW : Below WA.heap.size WA W) => rleft_any ((hvA.below hW hzz).more (Nat.le_trans hzz hW.size)) (by omega)
  have HS : Hid (∀ W, Below WA.heap.size WA W → W.cell? ⟨w.heap.size, 0, none⟩ = some (.slice A n c) ∧ W.cell? ⟨w.heap.size, 1, none⟩ = some (.slice A2 n c2)) := fun W hW =>
    ⟨(hX.below hW hX.lt).cell 0, (hX.below hW hX.lt).cell 1⟩
  have HH := Lib.hid (And.intro hdA (And.intro hvA hb))
  have hzB : w.heap.size < WA.heap.size := by omega
  clear hX hd hr1 hr2 hdA hvA hb hz
  obtain ⟨F, hF⟩ : ∃ F, freeN T = F := ⟨_, rfl⟩
  rw [hF] at LF RF
  clear hF
  go_region_held3 (fun w' => w'.cell? ⟨w.heap.size, 0, none⟩ = some (.slice A n c) ∧ w'.cell? ⟨w.heap.size, 1, none⟩ = some (.slice A2 n c2) ∧ Below WA.heap.size WA w')
    (first | exact ⟨(HS.out _ (Below.refl _ _)).1, (HS.out _ (Below.refl _ _)).2, Below.refl _ _⟩ | exact ⟨(HS.out _ (Below.drew (Below.refl _ _))).1, (HS.out _ (Below.drew (Below.refl _ _))).2, Below.drew (Below.refl _ _)⟩ | exact ⟨(HS.out _ hb2).1, (HS.out _ hb2).2, hb2⟩ | assumption)
    (first
      | (go_at_call 32; refine (LF.out _ (by with_reducible repeat (first | exact Below.refl _ _ | exact hb2 | refine Below.drew ?_ | refine bdr ?_ _))).mono ?_; rintro e w1 ⟨rfl, rfl⟩)
      | (go_at_call 33; refine (RF.out _ (by with_reducible repeat (first | exact Below.refl _ _ | exact hb2 | refine Below.drew ?_ | refine bdr ?_ _))).mono ?_; rintro e w2 ⟨rfl, hb2'⟩; have hb2 : Below WA.heap.size WA w2 := bto0 (by with_reducible repeat (first | exact Below.refl _ _ | exact hb2 | refine Below.drew ?_ | refine bdr ?_ _)) hb2'))
  have c0 := (HS.out _ hb2).1
  have bz : Below w.heap.size w w2 := HH.out.2.2.trans (hb2.mono hzz)
  clear hb2' LF RF
  go_wp2_with fail
  go_loopw [5, 7, 16] (fun u5 u7 u16 wr => ∃ k : Nat, u5 = .string (str (ps.take k).flatten) ∧ u16 = .int .i64 k ∧ k ≤ n ∧ Below WA.heap.size WA wr) (fun _ _ u16 _ => n - (intOf u16).toNat)
  case atStart => exact ⟨0, rfl, rfl, by omega, hb2⟩
  case round =>
    obtain ⟨k, rfl, rfl, hk, hbr⟩ := hrel
    have q0 : (0 : Int) ≤ (k : Int) := by omega
    have hdr := HH.out.1.below hbr hlA.1 hlA.2.1 hlA.2.2
    have bw : Below w.heap.size w wr := HH.out.2.2.trans (hbr.mono hzz)
    by_cases hlt : k < n
    · have q1 : (k : Int) < (n : Int) := by omega
      obtain ⟨A', c', A2', c2', e, hr1, _, _, _⟩ := HH.out.2.1.below hbr hzz
      simp only [Value.agg.injEq, Array.mk.injEq, List.cons.injEq, Value.slice.injEq, true_and, and_true] at e
      obtain ⟨⟨rfl, rfl⟩, rfl, rfl⟩ := e
      obtain ⟨ad, p, rfl, hab, hp, d1⟩ := hr1.text hlt
      have hft := Lib.hid (flat_take ps k p hp)
      have hpl : p.length = 512 := HH.out.1.full p (List.mem_of_getElem? hp)
      have hfl : (ps.take k).flatten.length ≤ 5000 * 512 := by
        rw [pflat_len _ (fun q hq => HH.out.1.full q (List.mem_of_mem_take hq)), List.length_take]
        exact Nat.mul_le_mul_right _ (by omega)
      have hsz : ¬ (9223372036854775807 < (str (ps.take k).flatten).size + (str p).size) := by rw [str_size, str_size, hpl]; omega
      have Hpl := Lib.hid hpl
      clear hdr hr1 hfl hpl hp
      obtain ⟨s1, hs1⟩ : ∃ s1, (ps.take k).flatten = s1 := ⟨_, rfl⟩
      rw [hs1] at hsz hft ⊢
      clear hs1
      go_wp2
      go_roundw
      case rel => exact ⟨k + 1, by rw [hft.out, str_app], by go_num, by omega, hbr⟩
      case measure => simp [intOf]; omega
    · obtain rfl : n = k := by omega
      have e1 : ps.take n = ps := List.take_of_length_le (by rw [HH.out.1.hp]; exact Nat.le_refl _)
      rw [e1]
      have I := Lib.hid (image_any hdr.dk (by omega) h1n (by rw [bV_toList]; exact bL_one _))
      have hfl : ps.flatten.length = n * 512 := by rw [pflat_len ps HH.out.1.full, HH.out.1.hp]
      have Hfl := Lib.hid hfl
      clear hdr hfl e1
      go_wp2_with fail
      refine I.out.mono ?_
      rintro e w4 ⟨rfl, hB4, hb4⟩
      have cv := conv_blk (P := Try.prog) hB4 59 5 9 Try.underlying59 Try.underlying5 Try.underlying9 (n * 512) (n * 512) Hfl.out
      clear hB4
      go_wp2
      go_ret
      exact ⟨rfl, bto0 bw hb4⟩
end
end Go.Proofs.Ytdimkeoncgjegaa
/-
  HeapFills: what the reference's Fill holds: the heap that is filled, its rows, and what stays by stores, calls and appends.
-/
namespace Go.Proofs.Ytdimkeoncgjegaa
section
set_option linter.unusedSimpArgs false
set_option linter.unusedVariables false
open Go.RowKit Go.Maps

/-- A world in which cells of one block were set. -/
structure Sets (w W : World) (g : Nat) : Prop where
  grown : w.grownBy W (some g)
  size : W.heap.size = w.heap.size
theorem Sets.refl (w : World) (g : Nat) : Sets w w g := ⟨⟨rfl, rfl, rfl, Nat.le_refl _, fun _ _ _ => rfl⟩, rfl⟩
theorem Sets.set {w W : World} {g : Nat} (h : Sets w W g) (i : Nat) (u : Value) : Sets w (W.setCell ⟨g, i, none⟩ u) g :=
  ⟨⟨h.grown.os, h.grown.tape, h.grown.output, by simp [World.setCell]; exact h.grown.size, fun k hk hkg => (Below.heap_setCell W _ u k (fun e => hkg (by rw [e]))).trans (h.grown.block k hk hkg)⟩, by simp [World.setCell]; exact h.size⟩
theorem Sets.below {w w0 W : World} {g : Nat} (h : Sets w W g) (hb : Below w0.heap.size w0 w) (hg : w0.heap.size ≤ g) : Below w0.heap.size w0 W :=
  hb.grown h.grown hb.size fun k e => by injection e with e; omega
theorem reads_grown {w w' : World} {sz n : Nat} {A : Option Addr} {xs : List Value} {row : Option Nat} (h : Reads w w.heap.size sz A n xs) (hg : w.grownBy w' row) (hne : 0 < n → ∀ ad, A = some ad → row ≠ some ad.block) : Reads w' w'.heap.size sz A n xs := by
  refine ⟨h.1, fun hn => ?_⟩
  obtain ⟨ad, e, hlt, hc⟩ := h.2 hn
  refine ⟨ad, e, Nat.lt_of_lt_of_le hlt hg.size, fun k u hu => ?_⟩
  have h1 := hc k u hu
  have h2 := hg.block ad.block hlt (fun e' => hne hn ad e e'.symm)
  unfold World.cell? at h1 ⊢
  rw [block_of_add] at h1 ⊢
  rw [h2]
  exact h1
/-- All eight cells of a heap were stored. -/
theorem blk8 {w : World} {g : Nat} {a0 a1 a2 a3 a4 a5 a6 a7 v0 v1 v2 v3 v4 v5 v6 v7 : Value} {t : TypeId} (h : Blk w g t #[a0, a1, a2, a3, a4, a5, a6, a7]) :
    Blk ((((((((w.setCell ⟨g, 0, none⟩ v0).setCell ⟨g, 1, none⟩ v1).setCell ⟨g, 2, none⟩ v2).setCell ⟨g, 3, none⟩ v3).setCell ⟨g, 4, none⟩ v4).setCell ⟨g, 5, none⟩ v5).setCell ⟨g, 6, none⟩ v6).setCell ⟨g, 7, none⟩ v7) g t #[v0, v1, v2, v3, v4, v5, v6, v7] := by
  have T := (((((((h.set_ 0 v0).set_ 1 v1).set_ 2 v2).set_ 3 v3).set_ 4 v4).set_ 5 v5).set_ 6 v6).set_ 7 v7
  simp only [List.setIfInBounds_toArray, List.set_cons_zero, List.set_cons_succ] at T
  exact T
theorem sets8 {w : World} {g : Nat} (v0 v1 v2 v3 v4 v5 v6 v7 : Value) :
    Sets w ((((((((w.setCell ⟨g, 0, none⟩ v0).setCell ⟨g, 1, none⟩ v1).setCell ⟨g, 2, none⟩ v2).setCell ⟨g, 3, none⟩ v3).setCell ⟨g, 4, none⟩ v4).setCell ⟨g, 5, none⟩ v5).setCell ⟨g, 6, none⟩ v6).setCell ⟨g, 7, none⟩ v7) g :=
  ((((((((Sets.refl w g).set 0 v0).set 1 v1).set 2 v2).set 3 v3).set 4 v4).set 5 v5).set 6 v6).set 7 v7

/-- Where a slice does not lie. -/
def Nb (w : World) (A : Option Addr) (n R G : Nat) (v : Value) : Prop := 0 < n → ∀ ad, A = some ad → ad.block < w.heap.size ∧ ad.block ≠ R ∧ ad.block ≠ G ∧ v.ownBlock ≠ some ad.block
theorem Nb.more {w w' : World} {A : Option Addr} {n R G : Nat} {v : Value} (h : Nb w A n R G v) (hs : w.heap.size ≤ w'.heap.size) : Nb w' A n R G v := fun hn ad e => ⟨Nat.lt_of_lt_of_le (h hn ad e).1 hs, (h hn ad e).2⟩

abbrev zH : Array Value := #[.slice none 0 0, .slice none 0 0, .int .u32 0, .int .u32 0, .int .u32 0, .slice none 0 0, .slice none 0 0, .bool false]
/-- The heap that is filled: the result's block R, its own block G, its row of places. -/
structure FS (w0 : World) (X0 Y0 : Option Addr) (w : World) (R G base : Nat) (h : Hh) (ps : List (List UInt8)) (T : List Bool) (rs : List (List UInt8)) (rids : List (Nat × Nat)) : Prop where
  hb : Below w0.heap.size w0 w
  bR : Blk w R 43 zH
  bG : Blk w G 43 h.arr
  lR : w0.heap.size ≤ R
  lG : R < G
  lb : w0.heap.size ≤ base
  lbs : base ≤ w.heap.size
  ir : HhIn w h ps T rs
  hr : h.r = rids.length
  row : w.ownsRow base 50 2 (.slice h.D h.r h.f) h.r (ridV rids)
  nA : Nb w h.A h.n R G (.slice h.D h.r h.f)
  nB : Nb w h.B h.n R G (.slice h.D h.r h.f)
  nC : Nb w h.C h.k R G (.slice h.D h.r h.f)
  oA : ∀ ad, h.A = some ad → X0 = some ad ∨ w0.heap.size ≤ ad.block
  oB : ∀ ad, h.B = some ad → Y0 = some ad ∨ w0.heap.size ≤ ad.block
section
variable {w0 w w' W : World} {X0 Y0 : Option Addr} {R G base : Nat} {h h' : Hh} {ps ps' : List (List UInt8)} {T T' : List Bool} {rs : List (List UInt8)} {rids : List (Nat × Nat)}
theorem FS.k (f : FS w0 X0 Y0 w R G base h ps T rs rids) : h.k = rs.length := by have := f.ir.r3.1; unfold sL at this; rw [List.length_map] at this; omega
theorem FS.tl (f : FS w0 X0 Y0 w R G base h ps T rs rids) : T.length = h.n := by have := f.ir.r2.1; rw [tL_len] at this; omega
theorem FS.call (f : FS w0 X0 Y0 w R G base h ps T rs rids) (hb : Below w.heap.size w w') : FS w0 X0 Y0 w' R G base h ps T rs rids :=
  ⟨bto0 f.hb hb, f.bR.below hb f.bR.lt, f.bG.below hb f.bG.lt, f.lR, f.lG, f.lb, Nat.le_trans f.lbs hb.size, f.ir.below hb, f.hr, own_kept_below f.row hb, f.nA.more hb.size, f.nB.more hb.size, f.nC.more hb.size, f.oA, f.oB⟩
theorem FS.ownLt (f : FS w0 X0 Y0 w R G base h ps T rs rids) {g : Nat} (e : (Value.slice h.D h.r h.f).ownBlock = some g) : g < w.heap.size := (World.ownsRow.lt f.row g e).2
theorem FS.ownNe (f : FS w0 X0 Y0 w R G base h ps T rs rids) {g : Nat} {t : TypeId} {cs : Array Value} (hg : Blk w g t cs) (ht : t ≠ 50) : (Value.slice h.D h.r h.f).ownBlock ≠ some g := fun e => by
  obtain ⟨cs', hb⟩ := ownR_blk f.row e
  exact hb.ne_ hg (Ne.symm ht) rfl
/-- Another page: the heap is stored anew. -/
theorem FS.nxt (f : FS w0 X0 Y0 w R G base h ps T rs rids) (hb : Below w.heap.size w w') (hi : HhIn w' h' ps' T' []) (e1 : h'.D = h.D) (e2 : h'.r = h.r) (e3 : h'.f = h.f) (en : h'.n = h.n)
    (a1 : ∀ ad, h'.A = some ad → h.A = some ad ∨ w.heap.size ≤ ad.block) (b1 : ∀ ad, h'.B = some ad → h.B = some ad ∨ w.heap.size ≤ ad.block) (s : Sets w' W G) (bW : Blk W G 43 h'.arr) : FS w0 X0 Y0 W R G base h' ps' T' [] rids := by
  have f' := f.call hb
  have hk : h'.k = 0 := by have := hi.r3.1; simp [sL] at this; omega
  have hlt : ∀ {A n xs}, Reads w' w'.heap.size 1 A n xs → 0 < n → ∀ ad, A = some ad → ad.block < w'.heap.size := fun hr hn ad e => by
    obtain ⟨ad', e', hlt, _⟩ := hr.2 hn
    rw [e] at e'
    obtain rfl := Option.some.inj e'
    exact hlt
  have hn : ∀ {A A' : Option Addr}, (∀ ad, A' = some ad → A = some ad ∨ w.heap.size ≤ ad.block) → (0 < h'.n → ∀ ad, A' = some ad → ad.block < w'.heap.size) → Nb w A h.n R G (.slice h.D h.r h.f) → Nb w' A' h'.n R G (.slice h'.D h'.r h'.f) := fun h1 h2 h3 hp ad e => by
    rw [e1, e2, e3]
    refine ⟨h2 hp ad e, ?_⟩
    rcases h1 ad e with h4 | h4
    · exact (h3 (by omega) ad h4).2
    · have := f.bR.lt
      have := f.bG.lt
      exact ⟨by omega, by omega, fun e => by have := f.ownLt e; omega⟩
  have nA' := hn a1 (hlt hi.r1) f.nA
  have nB' := hn b1 (hlt hi.r2) f.nB
  have row' : w'.ownsRow base 50 2 (.slice h'.D h'.r h'.f) h'.r (ridV rids) := by rw [e1, e2, e3]; exact f'.row
  have hG := f'.ownNe f'.bG (by decide)
  refine ⟨s.below f'.hb (by have := f.lR; have := f.lG; omega), f'.bR.grown s.grown (by have := f.lG; simp; omega), bW, f.lR, f.lG, f.lb, ?_, ⟨reads_grown hi.r1 s.grown fun hp ad e => ?_, reads_grown hi.r2 s.grown fun hp ad e => ?_, hi.c1, hi.c2, reads_grown hi.r3 s.grown fun hp => by omega, hi.c3⟩, by rw [e2]; exact f.hr, row'.kept s.grown ?_, nA'.more (by rw [s.size]; exact Nat.le_refl _), nB'.more (by rw [s.size]; exact Nat.le_refl _), fun hp => by omega, fun ad e => (a1 ad e).elim (f.oA ad) (fun h => .inr (Nat.le_trans f.hb.size h)), fun ad e => (b1 ad e).elim (f.oB ad) (fun h => .inr (Nat.le_trans f.hb.size h))⟩
  · rw [s.size]; exact f'.lbs
  · have := (nA' hp ad e).2.2.1; simp; omega
  · have := (nB' hp ad e).2.2.1; simp; omega
  · rw [e1, e2, e3]; exact .inr fun e => hG e
/-- A place more. -/
theorem FS.rid {x : Nat × Nat} {D : Option Addr} {c : Nat} {o : Obj} (f : FS w0 X0 Y0 w R G base h ps T rs rids) (own : w'.ownsRow base 50 2 (.slice D (h.r + 1) c) (h.r + 1) (ridV rids ++ [.int .u32 x.1, .int .u16 x.2])) (hg : (w.alloc o).grownBy w' (Value.slice h.D h.r h.f).ownBlock)
    (ho : (Value.slice D (h.r + 1) c).ownBlock = (Value.slice h.D h.r h.f).ownBlock ∨ (Value.slice D (h.r + 1) c).ownBlock = some (w.heap.size + 1)) :
    FS w0 X0 Y0 (w'.setCell ⟨G, 6, none⟩ (.slice D (h.r + 1) c)) R G base { h with D := D, r := h.r + 1, f := c } ps T rs (rids ++ [x]) := by
  have f' := f.call (ball (Below.refl w.heap.size w) o)
  have hgs := hg.size
  have hz : (w.alloc o).heap.size = w.heap.size + 1 := by simp
  have b1 : Below w0.heap.size w0 w' := f'.hb.grown hg f'.hb.size fun k e => by have := (World.ownsRow.lt f.row k e).1; have := f.lb; omega
  have bR1 : Blk w' R 43 zH := f'.bR.grown hg fun e => f.ownNe f.bR (by decide) e.symm
  have bG1 : Blk w' G 43 h.arr := f'.bG.grown hg fun e => f.ownNe f.bG (by decide) e.symm
  have s := (Sets.refl w' G).set 6 (.slice D (h.r + 1) c)
  have hn : ∀ {A : Option Addr} {n : Nat}, Nb w A n R G (.slice h.D h.r h.f) → Nb w' A n R G (.slice D (h.r + 1) c) := fun h1 hp ad e => by
    have h2 := h1 hp ad e
    refine ⟨by omega, h2.2.1, h2.2.2.1, ?_⟩
    rcases ho with ho | ho
    · rw [ho]; exact h2.2.2.2
    · rw [ho]; simp; omega
  have hro : ∀ {A : Option Addr} {n : Nat} {xs : List Value}, Reads w w.heap.size 1 A n xs → Nb w A n R G (.slice h.D h.r h.f) → Reads (w'.setCell ⟨G, 6, none⟩ (.slice D (h.r + 1) c)) (w'.setCell ⟨G, 6, none⟩ (.slice D (h.r + 1) c)).heap.size 1 A n xs := fun h1 h2 =>
    reads_grown (reads_grown (reads_alloc h1 o) hg fun hp ad e => (h2 hp ad e).2.2.2) s.grown fun hp ad e => by have := (h2 hp ad e).2.2.1; simp; omega
  refine ⟨s.below b1 (by have := f.lR; have := f.lG; omega), bR1.grown s.grown (by have := f.lG; simp; omega), ?_, f.lR, f.lG, f.lb, ?_, ⟨hro f.ir.r1 f.nA, hro f.ir.r2 f.nB, f.ir.c1, f.ir.c2, hro f.ir.r3 f.nC, f.ir.c3⟩, by simp [f.hr], ?_, (hn f.nA).more (by rw [s.size]; exact Nat.le_refl _), (hn f.nB).more (by rw [s.size]; exact Nat.le_refl _), (hn f.nC).more (by rw [s.size]; exact Nat.le_refl _), f.oA, f.oB⟩
  · have Z := bG1.set_ 6 (.slice D (h.r + 1) c)
    unfold Hh.arr at Z ⊢
    simp only [List.setIfInBounds_toArray, List.set_cons_zero, List.set_cons_succ] at Z
    exact Z
  · rw [s.size]; have := f.lbs; omega
  · rw [ridV_snoc]
    refine own.kept s.grown (.inr fun e => ?_)
    obtain ⟨cs', hb⟩ := ownR_blk own e
    exact hb.ne_ bG1 (by decide) rfl
/-- The page's records anew. -/
theorem FS.recs {C : Option Addr} {m c : Nat} {rs' : List (List UInt8)} (f : FS w0 X0 Y0 w R G base h ps T rs rids) (hb : Below w.heap.size w w') (own : w'.ownsRow w.heap.size 9 1 (.slice C m c) m (sL rs')) (hm : m ≤ c) :
    FS w0 X0 Y0 (w'.setCell ⟨G, 5, none⟩ (.slice C m c)) R G base { h with C := C, k := m, e := c } ps T rs' rids := by
  have f' := f.call hb
  have s := (Sets.refl w' G).set 5 (.slice C m c)
  have hG := f'.ownNe f'.bG (by decide)
  have nC' : Nb w' C m R G (.slice h.D h.r h.f) := fun hp ad e => by
    have h1 := own_hi own ad e
    have h2 := (Reads.of_own own).2 hp
    obtain ⟨ad', e', h3, _⟩ := h2
    rw [e] at e'
    obtain rfl := Option.some.inj e'
    have := f.bR.lt
    have := f.bG.lt
    exact ⟨h3, by omega, by omega, fun e => by have := f.ownLt e; omega⟩
  refine ⟨s.below f'.hb (by have := f.lR; have := f.lG; omega), f'.bR.grown s.grown (by have := f.lG; simp; omega), ?_, f.lR, f.lG, f.lb, ?_, ⟨reads_grown f'.ir.r1 s.grown fun hp ad e => ?_, reads_grown f'.ir.r2 s.grown fun hp ad e => ?_, f.ir.c1, f.ir.c2, reads_grown (Reads.of_own own) s.grown fun hp ad e => ?_, hm⟩, f.hr, f'.row.kept s.grown (.inr fun e => hG e), f'.nA.more (by rw [s.size]; exact Nat.le_refl _), f'.nB.more (by rw [s.size]; exact Nat.le_refl _), nC'.more (by rw [s.size]; exact Nat.le_refl _), f.oA, f.oB⟩
  · have Z := f'.bG.set_ 5 (.slice C m c)
    unfold Hh.arr at Z ⊢
    simp only [List.setIfInBounds_toArray, List.set_cons_zero, List.set_cons_succ] at Z
    exact Z
  · rw [s.size]; exact f'.lbs
  · have := (f'.nA hp ad e).2.2.1; simp; omega
  · have := (f'.nB hp ad e).2.2.1; simp; omega
  · have := (nC' hp ad e).2.2.1; simp; omega
end
end
end Go.Proofs.Ytdimkeoncgjegaa
