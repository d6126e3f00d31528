/-
  Several texts in one: Ne Ca.
-/
import Derived.Test.YtilopgfpifhccaaMtd
import Derived.Test.YtilopgfpifhccaaMta
import Derived.Deep.RegionWith
import Derived.Test.YtilopgfpifhccaaRows
import Derived.Test.YtilopgfpifhccaaShelf
import Derived.IntWalk
import Derived.WalkSpells
import Derived.WalkLawsBesides
/-
  Contracts of the reference's numbers: Of, Plus.
-/
namespace Go.Proofs.Ytilopgfpifhccaa
section
set_option linter.unusedSimpArgs false
set_option linter.unusedVariables false
open Go.RowKit

/-- A number of a sign. -/
def RetS (w : World) (z : Int) (m : Nat) (e : Ending) (w' : World) : Prop := ∃ v sg, ∃ x : Nat, e = .returned v ∧ (sg = 1 ∨ sg = -1) ∧ sg * (x : Int) = z ∧ IsN w' v sg x m ∧ Below w.heap.size w w'
theorem bcell {W w1 : World} (hb : Below W.heap.size W w1) : (∀ b o, b < W.heap.size → w1.cell? ⟨b, o, none⟩ = W.cell? ⟨b, o, none⟩) ∧ (∀ b o, b < W.heap.size → w1.frozen? ⟨b, o, none⟩ = W.frozen? ⟨b, o, none⟩) :=
  ⟨fun b o h => hb.cell (p := ⟨b, o, none⟩) h, fun b o h => hb.frozen (p := ⟨b, o, none⟩) h⟩
theorem blkOf {B : Nat} {w w' : World} {g : Nat} {t : TypeId} {cs : Array Value} (hb : Below B w w') (hg : g < B) (h : Blk w g t cs) : Blk w' g t cs := h.below hb hg
theorem Reads.up {w w' : World} {size n : Nat} {A : Option Addr} {xs : List Value} (h : Reads w w.heap.size size A n xs) (hb : Below w.heap.size w w') : Reads w' w'.heap.size size A n xs := (h.below hb).more hb.size
theorem Reads.setOther {w : World} {B size n : Nat} {A : Option Addr} {xs : List Value} (h : Reads w B size A n xs) {p : Addr} {u : Value} (hp : w.cell? p = some u) (hn : ∀ x ∈ xs, x ≠ u) (v : Value) : Reads (w.setCell p v) B size A n xs :=
  ⟨h.1, fun h0 => by
    obtain ⟨ad, e, hb, hc⟩ := h.2 h0
    refine ⟨ad, e, hb, fun j x hx => ?_⟩
    have h1 := hc j x hx
    rw [World.cell?_setCell_other w p (ad.add j) v (fun e => ?_)]
    · exact h1
    · subst e
      rw [hp] at h1
      exact hn x (List.mem_of_getElem? hx) (by injection h1 with h1; exact h1.symm)⟩
theorem vD_ne {l : List Nat} {u : Value} (h : ∀ d : Nat, u ≠ .int .u64 (d : Int)) : ∀ x ∈ vD l, x ≠ u := by
  intro x hx
  obtain ⟨d, _, rfl⟩ := List.mem_map.1 hx
  exact fun e => h d e.symm
theorem size_set (w : World) (p : Addr) (v : Value) : (w.setCell p v).heap.size = w.heap.size := by simp [World.setCell]
theorem reads_head {w : World} {g : Nat} {A : Option Addr} {n : Nat} {l : List Nat} {s : Int} {v : Value} (hr : Reads w w.heap.size 1 A n (vD l)) (h0 : w.cell? ⟨g, 0, none⟩ = some (.int .i64 s)) (h1 : w.cell? ⟨g, 1, none⟩ = some v) (hv : ∀ d : Nat, v ≠ .int .u64 (d : Int)) (s' : Int) (v' : Value) :
    Reads ((w.setCell ⟨g, 0, none⟩ (.int .i64 s')).setCell ⟨g, 1, none⟩ v') ((w.setCell ⟨g, 0, none⟩ (.int .i64 s')).setCell ⟨g, 1, none⟩ v').heap.size 1 A n (vD l) := by
  rw [size_set, size_set]
  refine Reads.setOther (Reads.setOther hr h0 (vD_ne fun d e => by cases e) _) (u := v) ?_ (vD_ne hv) _
  rw [World.cell?_setCell_other _ _ _ _ (by intro e; cases e)]
  exact h1
theorem Reads.setFar {w : World} {B size n : Nat} {A : Option Addr} {xs : List Value} (h : Reads w B size A n xs) {p : Addr} (hf : ∀ ad, A = some ad → 0 < n → ad.block ≠ p.block) (v : Value) : Reads (w.setCell p v) B size A n xs :=
  ⟨h.1, fun h0 => by
    obtain ⟨ad, e, hb, hc⟩ := h.2 h0
    refine ⟨ad, e, hb, fun j x hx => ?_⟩
    rw [World.cell?_setCell_other w p (ad.add j) v (fun e2 => hf ad e h0 (by have := congrArg Addr.block e2; rw [block_of_add] at this; exact this.symm))]
    exact hc j x hx⟩
/-- Digits do not lie in a number's own two cells. -/
theorem Reads.offN {w : World} {B n g : Nat} {A : Option Addr} {l : List Nat} {t : TypeId} {s : Int} {A' : Option Addr} {m c : Nat} (h : Reads w B 1 A n (vD l)) (hb : Blk w g t #[.int .i64 s, .slice A' m c]) : ∀ ad, A = some ad → 0 < n → ad.block ≠ g := by
  intro ad e h0 hg
  obtain ⟨ad', e', _, hc⟩ := h.2 h0
  rw [e] at e'
  injection e' with e'
  subst e'
  have hl : 0 < (vD l).length := by have := h.1; omega
  obtain ⟨d, _, hd⟩ := vD_at (List.getElem?_eq_getElem hl)
  have h1 := hc 0 _ (List.getElem?_eq_getElem hl)
  rw [hd] at h1
  unfold Blk at hb
  have h3 : ad.add 0 = ad := rfl
  rw [h3] at h1
  subst hg
  simp only [World.cell?, hb] at h1
  split at h1
  · cases h1
  · have : ad.off = 0 ∨ ad.off = 1 ∨ 2 ≤ ad.off := by omega
    rcases this with h5 | h5 | h5
    · rw [h5] at h1; injection h1 with h1; cases h1
    · rw [h5] at h1; injection h1 with h1; cases h1
    · rw [Array.getElem?_eq_none (by simpa using h5)] at h1; cases h1
theorem Reads.al {w : World} {size n : Nat} {A : Option Addr} {xs : List Value} (h : Reads w w.heap.size size A n xs) (o : Obj) : Reads (w.alloc o) (w.alloc o).heap.size size A n xs := h.up (ball (Below.refl _ _) _)
theorem Reads.sf {w : World} {size n : Nat} {A : Option Addr} {xs : List Value} (h : Reads w w.heap.size size A n xs) {p : Addr} (hf : ∀ ad, A = some ad → 0 < n → ad.block ≠ p.block) (v : Value) : Reads (w.setCell p v) (w.setCell p v).heap.size size A n xs := by
  rw [size_set]; exact h.setFar hf v
theorem Blk.newAt {w : World} {t : TypeId} {cs : Array Value} {g : Nat} (h : g = w.heap.size) : Blk (w.alloc (.cells cs t)) g t cs := by subst h; exact Blk.new _ _ _
theorem bset {a b : World} (h : Below a.heap.size a b) {p : Addr} (hp : a.heap.size ≤ p.block) (u : Value) : Below a.heap.size a (b.setCell p u) := h.setCell hp u
theorem wrapu' (n : Int) : IntKind.u64.wrap n = n % 18446744073709551616 := by
  simp [IntKind.wrap, IntKind.signed, IntKind.bits]

set_option maxRecDepth 100000 in
set_option maxHeartbeats 1000000 in
theorem of_any (n : Int) (w : World) (h0 : -9223372036854775808 ≤ n) (h1 : n ≤ 9223372036854775807) :
    Calls Try.prog 41 #[.int .i64 n] w (RetS w n 5) := by
  by_cases h : 0 ≤ n
  · obtain ⟨N, rfl⟩ := Int.eq_ofNat_of_zero_le h
    have c := fun W => whole_any N (by omega) W
    have C := Lib.hid c; clear c
    go_enter Try.func41, Try.ntmps41
    go_wp2_with (go_at_call 56; refine (C.out _).mono ?_; rintro e w1 ⟨v1, rfl, ⟨A1, n1, c1, l1, rfl, hr1, hnc1, hnm1, hok1, hdv1, hl1⟩, hb1⟩; have Hdv1 := Lib.hid hdv1; clear hdv1; have Hl1 := Lib.hid hl1; clear hl1; have hz1 := hb1.size; (try simp at hz1); have lt1_0 : w.heap.size < w1.heap.size := (by omega); have R1 : Blk w1 w.heap.size 73 #[.int .i64 0, .slice none 0 0] := blkOf hb1 (by (try simp) <;> omega) (by with_reducible repeat (first |  exact Blk.newAt (by simp) | refine Blk.drew ?_ | refine Blk.drewN ?_ _ | refine Blk.alloc ?_ _)); have R1c0 : w1.cell? ⟨w.heap.size, 0, none⟩ = some (.int .i64 0) := R1.cell 0; have R1f0 := R1.frozen 0; have R1c1 : w1.cell? ⟨w.heap.size, 1, none⟩ = some (.slice none 0 0) := R1.cell 1; have R1f1 := R1.frozen 1)
    refine bodyPost_ret (v := .agg #[.int .i64 1, .slice A1 n1 c1]) (by simp [results, Try.results41, go_sem, R1c0, R1c1]) rfl ⟨_, 1, N, rfl, .inl rfl, by omega, ⟨A1, n1, c1, l1, rfl, ?_, hnc1, by omega, hok1, Hdv1.out, Hl1.out⟩, ?_⟩
    · exact reads_head (g := w.heap.size) (s := 0) (v := .slice none 0 0) hr1 R1c0 R1c1 (fun d e => by cases e) _ _
    · exact bset (bset (bto0 (ball (Below.refl _ _) _) hb1) (Nat.le_refl _) _) (Nat.le_refl _) _
  · obtain ⟨N, hN⟩ : ∃ N : Nat, -(n + 1) = (N : Int) := ⟨(-(n + 1)).toNat, by omega⟩
    have c := fun W => whole_any N (by omega) W
    have C := Lib.hid c; clear c
    have d := fun W => whole_any 1 (by omega) W
    have D := Lib.hid d; clear d
    have HN := Lib.hid hN
    have hw : IntKind.u64.wrap (-(n + 1)) = (N : Int) := by rw [wrapu']; omega
    go_enter Try.func41, Try.ntmps41
    go_wp2_with (go_at_call 56; refine (C.out _).mono ?_; rintro e w1 ⟨v1, rfl, ⟨A1, n1, c1, l1, rfl, hr1, hnc1, hnm1, hok1, hdv1, hl1⟩, hb1⟩; have Hdv1 := Lib.hid hdv1; clear hdv1; have Hl1 := Lib.hid hl1; clear hl1; have hz1 := hb1.size; (try simp at hz1); have lt1_0 : w.heap.size < w1.heap.size := (by omega); have R1 : Blk w1 w.heap.size 73 #[.int .i64 0, .slice none 0 0] := blkOf hb1 (by (try simp) <;> omega) (by with_reducible repeat (first |  exact Blk.newAt (by simp) | refine Blk.drew ?_ | refine Blk.drewN ?_ _ | refine Blk.alloc ?_ _)); have R1c0 : w1.cell? ⟨w.heap.size, 0, none⟩ = some (.int .i64 0) := R1.cell 0; have R1f0 := R1.frozen 0; have R1c1 : w1.cell? ⟨w.heap.size, 1, none⟩ = some (.slice none 0 0) := R1.cell 1; have R1f1 := R1.frozen 1)
    go_region_with (first
      | (go_at_call 56; refine (D.out _).mono ?_; rintro e w2 ⟨v2, rfl, ⟨A2, n2, c2, l2, rfl, hr2, hnc2, hnm2, hok2, hdv2, hl2⟩, hb2⟩; have Hdv2 := Lib.hid hdv2; clear hdv2; have Hl2 := Lib.hid hl2; clear hl2; have hz2 := hb2.size; (try simp at hz2); have lt2_0 : w.heap.size < w2.heap.size := (by omega); have lt2_1 : w1.heap.size < w2.heap.size := (by omega); have R2 : Blk w2 w.heap.size 73 #[.int .i64 0, .slice none 0 0] := blkOf hb2 (by (try simp) <;> omega) (by with_reducible repeat (first | exact R1 |  exact Blk.newAt (by simp) | refine Blk.drew ?_ | refine Blk.drewN ?_ _ | refine Blk.alloc ?_ _)); have R2c0 : w2.cell? ⟨w.heap.size, 0, none⟩ = some (.int .i64 0) := R2.cell 0; have R2f0 := R2.frozen 0; have R2c1 : w2.cell? ⟨w.heap.size, 1, none⟩ = some (.slice none 0 0) := R2.cell 1; have R2f1 := R2.frozen 1; have X2 : Blk w2 w1.heap.size 73 #[.int .i64 1, .slice A1 n1 c1] := blkOf hb2 (by (try simp) <;> omega) (by with_reducible repeat (first |  exact Blk.newAt (by simp) | refine Blk.drew ?_ | refine Blk.drewN ?_ _ | refine Blk.alloc ?_ _)); have X2c0 : w2.cell? ⟨w1.heap.size, 0, none⟩ = some (.int .i64 1) := X2.cell 0; have X2f0 := X2.frozen 0; have X2c1 : w2.cell? ⟨w1.heap.size, 1, none⟩ = some (.slice A1 n1 c1) := X2.cell 1; have X2f1 := X2.frozen 1)
      | (go_at_call 57; refine (size_any 1 1 A1 n1 c1 l1 A2 n2 c2 l2 _ (hr1.up (by (with_reducible repeat (first | exact Below.refl _ _ | exact hb2 | exact hb1 | refine bto0 ?_ hb2 | refine bto0 ?_ hb1 | refine bdr ?_ _ | refine Below.drew ?_ | refine ball ?_ _)))) (hr2.up (by (with_reducible repeat (first | exact Below.refl _ _ | exact hb2 | exact hb1 | refine bto0 ?_ hb2 | refine bto0 ?_ hb1 | refine bdr ?_ _ | refine Below.drew ?_ | refine ball ?_ _)))) hok1 hok2 (by omega) (by omega) hnc1 hnc2).mono ?_; rintro e w3 ⟨v3, rfl, ⟨A3, n3, c3, l3, rfl, hr3, hnc3, hnm3, hok3, hdv3, hl3⟩, hb3⟩; have Hdv3 := Lib.hid hdv3; clear hdv3; have Hl3 := Lib.hid hl3; clear hl3; have hz3 := hb3.size; (try simp at hz3); have lt3_0 : w.heap.size < w3.heap.size := (by omega); have lt3_1 : w1.heap.size < w3.heap.size := (by omega); have R3 : Blk w3 w.heap.size 73 #[.int .i64 0, .slice none 0 0] := blkOf hb3 (by (try simp) <;> omega) (by with_reducible repeat (first | exact R2 |  exact Blk.newAt (by simp) | refine Blk.drew ?_ | refine Blk.drewN ?_ _ | refine Blk.alloc ?_ _)); have R3c0 : w3.cell? ⟨w.heap.size, 0, none⟩ = some (.int .i64 0) := R3.cell 0; have R3f0 := R3.frozen 0; have R3c1 : w3.cell? ⟨w.heap.size, 1, none⟩ = some (.slice none 0 0) := R3.cell 1; have R3f1 := R3.frozen 1; have X3 : Blk w3 w1.heap.size 73 #[.int .i64 1, .slice A1 n1 c1] := blkOf hb3 (by (try simp) <;> omega) (by with_reducible repeat (first | exact X2 |  exact Blk.newAt (by simp) | refine Blk.drew ?_ | refine Blk.drewN ?_ _ | refine Blk.alloc ?_ _)); have X3c0 : w3.cell? ⟨w1.heap.size, 0, none⟩ = some (.int .i64 1) := X3.cell 0; have X3f0 := X3.frozen 0; have X3c1 : w3.cell? ⟨w1.heap.size, 1, none⟩ = some (.slice A1 n1 c1) := X3.cell 1; have X3f1 := X3.frozen 1))
    all_goals go_wp2_with fail
    all_goals
      have ne : w.heap.size ≠ w1.heap.size := by omega
      have f1 := hr3.offN R3
      have f2 := hr3.offN X3
      refine bodyPost_ret (v := .agg #[.int .i64 (-1), .slice A3 n3 c3]) (by simp [results, Try.results41, go_sem, R3c0, R3c1]) rfl ⟨_, -1, N + 1, rfl, .inr rfl, by omega, ⟨A3, n3, c3, l3, rfl, ?_, hnc3, by omega, hok3, by rw [Hdv3.out, Hdv1.out, Hdv2.out], Hl3.out⟩, ?_⟩
      · simp only [size_set]
        repeat (refine Reads.setFar ?_ (by first | exact f1 | exact f2) _)
        exact hr3
      · have b3 : Below w.heap.size w w3 := by (with_reducible repeat (first | exact Below.refl _ _ | exact hb3 | exact hb2 | exact hb1 | refine bto0 ?_ hb3 | refine bto0 ?_ hb2 | refine bto0 ?_ hb1 | refine bdr ?_ _ | refine Below.drew ?_ | refine ball ?_ _))
        repeat (refine bset ?_ (by first | exact Nat.le_refl _ | (show w.heap.size ≤ w1.heap.size; omega)) _)
        exact b3

theorem signs {sa sb : Int} {x y : Nat} (ha : sa = 1 ∨ sa = -1) (hb : sb = 1 ∨ sb = -1) : (sa = sb ∧ sa * ((x + y : Nat) : Int) = sa * x + sb * y) ∨ (sa ≠ sb ∧ x < y ∧ sb * ((y - x : Nat) : Int) = sa * x + sb * y) ∨ (sa ≠ sb ∧ y ≤ x ∧ sa * ((x - y : Nat) : Int) = sa * x + sb * y) := by
  rcases ha with rfl | rfl <;> rcases hb with rfl | rfl <;> omega

set_option maxRecDepth 100000 in
set_option maxHeartbeats 2000000 in
theorem plus_any (sa sb : Int) (hsa : sa = 1 ∨ sa = -1) (hsb : sb = 1 ∨ sb = -1) (A1 : Option Addr) (n1 c1 : Nat) (l1 : List Nat) (A2 : Option Addr) (n2 c2 : Nat) (l2 : List Nat) (w : World)
    (hr1 : Reads w w.heap.size 1 A1 n1 (vD l1)) (hr2 : Reads w w.heap.size 1 A2 n2 (vD l2)) (hok1 : dok l1) (hok2 : dok l2) (hn1 : n1 ≤ 10000) (hn2 : n2 ≤ 10000) (hnc1 : n1 ≤ c1) (hnc2 : n2 ≤ c2) :
    Calls Try.prog 58 #[.agg #[.int .i64 sa, .slice A1 n1 c1], .agg #[.int .i64 sb, .slice A2 n2 c2]] w (RetS w (sa * (dv l1 : Nat) + sb * (dv l2 : Nat)) (max n1 n2 + 1)) := by
  have hs := signs (x := dv l1) (y := dv l2) hsa hsb
  have hW3 : Below w.heap.size w (((w.alloc (.cells #[.int .i64 sa, .slice A1 n1 c1] 73)).alloc (.cells #[.int .i64 sb, .slice A2 n2 c2] 73)).alloc (.cells #[.int .i64 0, .slice none 0 0] 73)) := ball (ball (ball (Below.refl _ _) _) _) _
  have Hsa := Lib.hid hsa
  have Hsb := Lib.hid hsb
  rcases hs with ⟨rfl, hv⟩ | ⟨hne, hlt, hv⟩ | ⟨hne, hlt, hv⟩
  · have Hv := Lib.hid hv
    clear hv hsa hsb
    go_enter Try.func58, Try.ntmps58
    go_wp2_with (go_at_call 57; refine (size_any sa sa A1 n1 c1 l1 A2 n2 c2 l2 _ (hr1.up (by (with_reducible repeat (first | exact Below.refl _ _ | exact hW3 | refine bto0 ?_ hW3 | refine bdr ?_ _ | refine Below.drew ?_ | refine ball ?_ _)))) (hr2.up (by (with_reducible repeat (first | exact Below.refl _ _ | exact hW3 | refine bto0 ?_ hW3 | refine bdr ?_ _ | refine Below.drew ?_ | refine ball ?_ _)))) hok1 hok2 hn1 hn2 hnc1 hnc2).mono ?_; rintro e w3 ⟨v3, rfl, ⟨A3, n3, c3, l3, rfl, hr3, hnc3, hnm3, hok3, hdv3, hl3⟩, hb3⟩; have Hdv3 := Lib.hid hdv3; clear hdv3; have Hl3 := Lib.hid hl3; clear hl3; have hz3 := hb3.size; (try simp at hz3); have lt3_0 : w.heap.size < w3.heap.size := (by omega); have lt3_1 : w.heap.size + 1 < w3.heap.size := (by omega); have lt3_2 : w.heap.size + 1 + 1 < w3.heap.size := (by omega); have P3 : Blk w3 w.heap.size 73 #[.int .i64 sa, .slice A1 n1 c1] := blkOf hb3 (by (try simp) <;> omega) (by with_reducible repeat (first |  exact Blk.newAt (by simp) | refine Blk.drew ?_ | refine Blk.drewN ?_ _ | refine Blk.alloc ?_ _)); have P3c0 : w3.cell? ⟨w.heap.size, 0, none⟩ = some (.int .i64 sa) := P3.cell 0; have P3f0 := P3.frozen 0; have P3c1 : w3.cell? ⟨w.heap.size, 1, none⟩ = some (.slice A1 n1 c1) := P3.cell 1; have P3f1 := P3.frozen 1; have R3 : Blk w3 (w.heap.size + 1 + 1) 73 #[.int .i64 0, .slice none 0 0] := blkOf hb3 (by (try simp) <;> omega) (by with_reducible repeat (first |  exact Blk.newAt (by simp) | refine Blk.drew ?_ | refine Blk.drewN ?_ _ | refine Blk.alloc ?_ _)); have R3c0 : w3.cell? ⟨(w.heap.size + 1 + 1), 0, none⟩ = some (.int .i64 0) := R3.cell 0; have R3f0 := R3.frozen 0; have R3c1 : w3.cell? ⟨(w.heap.size + 1 + 1), 1, none⟩ = some (.slice none 0 0) := R3.cell 1; have R3f1 := R3.frozen 1)
    have f1 := hr3.offN R3
    refine bodyPost_ret (v := .agg #[.int .i64 (sa), .slice A3 n3 c3]) (by simp [results, Try.results58, go_sem, R3c0, R3c1, lt3_0, lt3_1, lt3_2]) rfl ⟨_, sa, dv l1 + dv l2, rfl, Hsa.out, Hv.out, ⟨A3, n3, c3, l3, rfl, (by repeat (first | exact hr3 | refine Reads.al ?_ _ | refine Reads.sf ?_ (by first | exact f1) _)), hnc3, by omega, hok3, Hdv3.out, Hl3.out⟩, (by
        have bz : Below w.heap.size w w3 := by (with_reducible repeat (first | exact Below.refl _ _ | exact hb3 | exact hW3 | refine bto0 ?_ hb3 | refine bto0 ?_ hW3 | refine bdr ?_ _ | refine Below.drew ?_ | refine ball ?_ _))
        repeat (first | exact bz | refine ball ?_ _ | refine bset ?_ (by dsimp only <;> omega) _))⟩
  · have Hv := Lib.hid hv
    have hq : (sa != sb) = true := by rw [bne_iff_ne]; exact hne
    clear hv hsa hsb
    have HL : Hid (∀ W, Below w.heap.size w W → Calls Try.prog 55 #[.agg #[.int .i64 sa, .slice A1 n1 c1], .agg #[.int .i64 sb, .slice A2 n2 c2]] W (RetB W (.bool true))) := by
      intro W hb
      have h := rless_n sa sb A1 n1 c1 l1 A2 n2 c2 l2 W (hr1.up hb) (hr2.up hb) hok1 hok2 hn1 hn2
      rw [decide_eq_true hlt] at h
      exact h
    have HA : Hid (∀ W, Below w.heap.size w W → Calls Try.prog 67 #[.agg #[.int .i64 sb, .slice A2 n2 c2], .agg #[.int .i64 sa, .slice A1 n1 c1]] W (RetN W 1 (dv l2 - dv l1) n2)) := fun W hb => apart_any sb sa A2 n2 c2 l2 A1 n1 c1 l1 W (hr2.up hb) (hr1.up hb) hok2 hok1 hn2 hn1 (by omega)
    go_enter Try.func58, Try.ntmps58
    go_wp2_with (first
      | (go_at_call 55; refine (HL.out _ (by (with_reducible repeat (first | exact Below.refl _ _ | exact hW3 | refine bto0 ?_ hW3 | refine bdr ?_ _ | refine Below.drew ?_ | refine ball ?_ _)))).mono ?_; rintro e w3 ⟨rfl, hb3⟩; have hz3 := hb3.size; (try simp at hz3); have lt3_0 : w.heap.size < w3.heap.size := (by omega); have lt3_1 : w.heap.size + 1 < w3.heap.size := (by omega); have lt3_2 : w.heap.size + 1 + 1 < w3.heap.size := (by omega); have P3 : Blk w3 w.heap.size 73 #[.int .i64 sa, .slice A1 n1 c1] := blkOf hb3 (by (try simp) <;> omega) (by with_reducible repeat (first |  exact Blk.newAt (by simp) | refine Blk.drew ?_ | refine Blk.drewN ?_ _ | refine Blk.alloc ?_ _)); have P3c0 : w3.cell? ⟨w.heap.size, 0, none⟩ = some (.int .i64 sa) := P3.cell 0; have P3f0 := P3.frozen 0; have P3c1 : w3.cell? ⟨w.heap.size, 1, none⟩ = some (.slice A1 n1 c1) := P3.cell 1; have P3f1 := P3.frozen 1; have Q3 : Blk w3 (w.heap.size + 1) 73 #[.int .i64 sb, .slice A2 n2 c2] := blkOf hb3 (by (try simp) <;> omega) (by with_reducible repeat (first |  exact Blk.newAt (by simp) | refine Blk.drew ?_ | refine Blk.drewN ?_ _ | refine Blk.alloc ?_ _)); have Q3c0 : w3.cell? ⟨(w.heap.size + 1), 0, none⟩ = some (.int .i64 sb) := Q3.cell 0; have Q3f0 := Q3.frozen 0; have Q3c1 : w3.cell? ⟨(w.heap.size + 1), 1, none⟩ = some (.slice A2 n2 c2) := Q3.cell 1; have Q3f1 := Q3.frozen 1; have R3 : Blk w3 (w.heap.size + 1 + 1) 73 #[.int .i64 0, .slice none 0 0] := blkOf hb3 (by (try simp) <;> omega) (by with_reducible repeat (first |  exact Blk.newAt (by simp) | refine Blk.drew ?_ | refine Blk.drewN ?_ _ | refine Blk.alloc ?_ _)); have R3c0 : w3.cell? ⟨(w.heap.size + 1 + 1), 0, none⟩ = some (.int .i64 0) := R3.cell 0; have R3f0 := R3.frozen 0; have R3c1 : w3.cell? ⟨(w.heap.size + 1 + 1), 1, none⟩ = some (.slice none 0 0) := R3.cell 1; have R3f1 := R3.frozen 1)
      | (go_at_call 67; refine (HA.out _ (by (with_reducible repeat (first | exact Below.refl _ _ | exact hb3 | exact hW3 | refine bto0 ?_ hb3 | refine bto0 ?_ hW3 | refine bdr ?_ _ | refine Below.drew ?_ | refine ball ?_ _)))).mono ?_; rintro e w4 ⟨v4, rfl, ⟨A4, n4, c4, l4, rfl, hr4, hnc4, hnm4, hok4, hdv4, hl4⟩, hb4⟩; have Hdv4 := Lib.hid hdv4; clear hdv4; have Hl4 := Lib.hid hl4; clear hl4; have hz4 := hb4.size; (try simp at hz4); have lt4_0 : w.heap.size < w4.heap.size := (by omega); have lt4_1 : w.heap.size + 1 < w4.heap.size := (by omega); have lt4_2 : w.heap.size + 1 + 1 < w4.heap.size := (by omega); have P4 : Blk w4 w.heap.size 73 #[.int .i64 sa, .slice A1 n1 c1] := blkOf hb4 (by (try simp) <;> omega) (by with_reducible repeat (first | exact P3 |  exact Blk.newAt (by simp) | refine Blk.drew ?_ | refine Blk.drewN ?_ _ | refine Blk.alloc ?_ _)); have P4c0 : w4.cell? ⟨w.heap.size, 0, none⟩ = some (.int .i64 sa) := P4.cell 0; have P4f0 := P4.frozen 0; have P4c1 : w4.cell? ⟨w.heap.size, 1, none⟩ = some (.slice A1 n1 c1) := P4.cell 1; have P4f1 := P4.frozen 1; have Q4 : Blk w4 (w.heap.size + 1) 73 #[.int .i64 sb, .slice A2 n2 c2] := blkOf hb4 (by (try simp) <;> omega) (by with_reducible repeat (first | exact Q3 |  exact Blk.newAt (by simp) | refine Blk.drew ?_ | refine Blk.drewN ?_ _ | refine Blk.alloc ?_ _)); have Q4c0 : w4.cell? ⟨(w.heap.size + 1), 0, none⟩ = some (.int .i64 sb) := Q4.cell 0; have Q4f0 := Q4.frozen 0; have Q4c1 : w4.cell? ⟨(w.heap.size + 1), 1, none⟩ = some (.slice A2 n2 c2) := Q4.cell 1; have Q4f1 := Q4.frozen 1; have R4 : Blk w4 (w.heap.size + 1 + 1) 73 #[.int .i64 0, .slice none 0 0] := blkOf hb4 (by (try simp) <;> omega) (by with_reducible repeat (first | exact R3 |  exact Blk.newAt (by simp) | refine Blk.drew ?_ | refine Blk.drewN ?_ _ | refine Blk.alloc ?_ _)); have R4c0 : w4.cell? ⟨(w.heap.size + 1 + 1), 0, none⟩ = some (.int .i64 0) := R4.cell 0; have R4f0 := R4.frozen 0; have R4c1 : w4.cell? ⟨(w.heap.size + 1 + 1), 1, none⟩ = some (.slice none 0 0) := R4.cell 1; have R4f1 := R4.frozen 1))
    have f1 := hr4.offN R4
    refine bodyPost_ret (v := .agg #[.int .i64 (sb), .slice A4 n4 c4]) (by simp [results, Try.results58, go_sem, R4c0, R4c1, lt4_0, lt4_1, lt4_2]) rfl ⟨_, sb, dv l2 - dv l1, rfl, Hsb.out, Hv.out, ⟨A4, n4, c4, l4, rfl, (by repeat (first | exact hr4 | refine Reads.al ?_ _ | refine Reads.sf ?_ (by first | exact f1) _)), hnc4, by omega, hok4, Hdv4.out, Hl4.out⟩, (by
        have bz : Below w.heap.size w w4 := by (with_reducible repeat (first | exact Below.refl _ _ | exact hb4 | exact hb3 | exact hW3 | refine bto0 ?_ hb4 | refine bto0 ?_ hb3 | refine bto0 ?_ hW3 | refine bdr ?_ _ | refine Below.drew ?_ | refine ball ?_ _))
        repeat (first | exact bz | refine ball ?_ _ | refine bset ?_ (by dsimp only <;> omega) _))⟩
  · have Hv := Lib.hid hv
    have hq : (sa != sb) = true := by rw [bne_iff_ne]; exact hne
    clear hv hsa hsb
    have HL : Hid (∀ W, Below w.heap.size w W → Calls Try.prog 55 #[.agg #[.int .i64 sa, .slice A1 n1 c1], .agg #[.int .i64 sb, .slice A2 n2 c2]] W (RetB W (.bool false))) := by
      intro W hb
      have h := rless_n sa sb A1 n1 c1 l1 A2 n2 c2 l2 W (hr1.up hb) (hr2.up hb) hok1 hok2 hn1 hn2
      rw [decide_eq_false (by omega)] at h
      exact h
    have HA : Hid (∀ W, Below w.heap.size w W → Calls Try.prog 67 #[.agg #[.int .i64 sa, .slice A1 n1 c1], .agg #[.int .i64 sb, .slice A2 n2 c2]] W (RetN W 1 (dv l1 - dv l2) n1)) := fun W hb => apart_any sa sb A1 n1 c1 l1 A2 n2 c2 l2 W (hr1.up hb) (hr2.up hb) hok1 hok2 hn1 hn2 hlt
    go_enter Try.func58, Try.ntmps58
    go_wp2_with (first
      | (go_at_call 55; refine (HL.out _ (by (with_reducible repeat (first | exact Below.refl _ _ | exact hW3 | refine bto0 ?_ hW3 | refine bdr ?_ _ | refine Below.drew ?_ | refine ball ?_ _)))).mono ?_; rintro e w3 ⟨rfl, hb3⟩; have hz3 := hb3.size; (try simp at hz3); have lt3_0 : w.heap.size < w3.heap.size := (by omega); have lt3_1 : w.heap.size + 1 < w3.heap.size := (by omega); have lt3_2 : w.heap.size + 1 + 1 < w3.heap.size := (by omega); have P3 : Blk w3 w.heap.size 73 #[.int .i64 sa, .slice A1 n1 c1] := blkOf hb3 (by (try simp) <;> omega) (by with_reducible repeat (first |  exact Blk.newAt (by simp) | refine Blk.drew ?_ | refine Blk.drewN ?_ _ | refine Blk.alloc ?_ _)); have P3c0 : w3.cell? ⟨w.heap.size, 0, none⟩ = some (.int .i64 sa) := P3.cell 0; have P3f0 := P3.frozen 0; have P3c1 : w3.cell? ⟨w.heap.size, 1, none⟩ = some (.slice A1 n1 c1) := P3.cell 1; have P3f1 := P3.frozen 1; have Q3 : Blk w3 (w.heap.size + 1) 73 #[.int .i64 sb, .slice A2 n2 c2] := blkOf hb3 (by (try simp) <;> omega) (by with_reducible repeat (first |  exact Blk.newAt (by simp) | refine Blk.drew ?_ | refine Blk.drewN ?_ _ | refine Blk.alloc ?_ _)); have Q3c0 : w3.cell? ⟨(w.heap.size + 1), 0, none⟩ = some (.int .i64 sb) := Q3.cell 0; have Q3f0 := Q3.frozen 0; have Q3c1 : w3.cell? ⟨(w.heap.size + 1), 1, none⟩ = some (.slice A2 n2 c2) := Q3.cell 1; have Q3f1 := Q3.frozen 1; have R3 : Blk w3 (w.heap.size + 1 + 1) 73 #[.int .i64 0, .slice none 0 0] := blkOf hb3 (by (try simp) <;> omega) (by with_reducible repeat (first |  exact Blk.newAt (by simp) | refine Blk.drew ?_ | refine Blk.drewN ?_ _ | refine Blk.alloc ?_ _)); have R3c0 : w3.cell? ⟨(w.heap.size + 1 + 1), 0, none⟩ = some (.int .i64 0) := R3.cell 0; have R3f0 := R3.frozen 0; have R3c1 : w3.cell? ⟨(w.heap.size + 1 + 1), 1, none⟩ = some (.slice none 0 0) := R3.cell 1; have R3f1 := R3.frozen 1)
      | (go_at_call 67; refine (HA.out _ (by (with_reducible repeat (first | exact Below.refl _ _ | exact hb3 | exact hW3 | refine bto0 ?_ hb3 | refine bto0 ?_ hW3 | refine bdr ?_ _ | refine Below.drew ?_ | refine ball ?_ _)))).mono ?_; rintro e w4 ⟨v4, rfl, ⟨A4, n4, c4, l4, rfl, hr4, hnc4, hnm4, hok4, hdv4, hl4⟩, hb4⟩; have Hdv4 := Lib.hid hdv4; clear hdv4; have Hl4 := Lib.hid hl4; clear hl4; have hz4 := hb4.size; (try simp at hz4); have lt4_0 : w.heap.size < w4.heap.size := (by omega); have lt4_1 : w.heap.size + 1 < w4.heap.size := (by omega); have lt4_2 : w.heap.size + 1 + 1 < w4.heap.size := (by omega); have P4 : Blk w4 w.heap.size 73 #[.int .i64 sa, .slice A1 n1 c1] := blkOf hb4 (by (try simp) <;> omega) (by with_reducible repeat (first | exact P3 |  exact Blk.newAt (by simp) | refine Blk.drew ?_ | refine Blk.drewN ?_ _ | refine Blk.alloc ?_ _)); have P4c0 : w4.cell? ⟨w.heap.size, 0, none⟩ = some (.int .i64 sa) := P4.cell 0; have P4f0 := P4.frozen 0; have P4c1 : w4.cell? ⟨w.heap.size, 1, none⟩ = some (.slice A1 n1 c1) := P4.cell 1; have P4f1 := P4.frozen 1; have Q4 : Blk w4 (w.heap.size + 1) 73 #[.int .i64 sb, .slice A2 n2 c2] := blkOf hb4 (by (try simp) <;> omega) (by with_reducible repeat (first | exact Q3 |  exact Blk.newAt (by simp) | refine Blk.drew ?_ | refine Blk.drewN ?_ _ | refine Blk.alloc ?_ _)); have Q4c0 : w4.cell? ⟨(w.heap.size + 1), 0, none⟩ = some (.int .i64 sb) := Q4.cell 0; have Q4f0 := Q4.frozen 0; have Q4c1 : w4.cell? ⟨(w.heap.size + 1), 1, none⟩ = some (.slice A2 n2 c2) := Q4.cell 1; have Q4f1 := Q4.frozen 1; have R4 : Blk w4 (w.heap.size + 1 + 1) 73 #[.int .i64 0, .slice none 0 0] := blkOf hb4 (by (try simp) <;> omega) (by with_reducible repeat (first | exact R3 |  exact Blk.newAt (by simp) | refine Blk.drew ?_ | refine Blk.drewN ?_ _ | refine Blk.alloc ?_ _)); have R4c0 : w4.cell? ⟨(w.heap.size + 1 + 1), 0, none⟩ = some (.int .i64 0) := R4.cell 0; have R4f0 := R4.frozen 0; have R4c1 : w4.cell? ⟨(w.heap.size + 1 + 1), 1, none⟩ = some (.slice none 0 0) := R4.cell 1; have R4f1 := R4.frozen 1))
    have f1 := hr4.offN R4
    refine bodyPost_ret (v := .agg #[.int .i64 (sa), .slice A4 n4 c4]) (by simp [results, Try.results58, go_sem, R4c0, R4c1, lt4_0, lt4_1, lt4_2]) rfl ⟨_, sa, dv l1 - dv l2, rfl, Hsa.out, Hv.out, ⟨A4, n4, c4, l4, rfl, (by repeat (first | exact hr4 | refine Reads.al ?_ _ | refine Reads.sf ?_ (by first | exact f1) _)), hnc4, by omega, hok4, Hdv4.out, Hl4.out⟩, (by
        have bz : Below w.heap.size w w4 := by (with_reducible repeat (first | exact Below.refl _ _ | exact hb4 | exact hb3 | exact hW3 | refine bto0 ?_ hb4 | refine bto0 ?_ hb3 | refine bto0 ?_ hW3 | refine bdr ?_ _ | refine Below.drew ?_ | refine ball ?_ _))
        repeat (first | exact bz | refine ball ?_ _ | refine bset ?_ (by dsimp only <;> omega) _))⟩
end
end Go.Proofs.Ytilopgfpifhccaa
/-
  Contracts of calc: Add, Sub, Neg, Mul.
-/
namespace Go.Proofs.Ytilopgfpifhccaa
section
set_option linter.unusedSimpArgs false
set_option linter.unusedVariables false
open Go.RowKit

theorem wrap_toInt (v : BitVec 64) : IntKind.i64.wrap (v.toNat : Int) = v.toInt := by
  have := v.isLt
  rw [BitVec.toInt_eq_toNat_cond]
  simp [IntKind.wrap, IntKind.signed, IntKind.bits]
  split <;> split <;> omega
theorem msb_of (a : Int) (h0 : -9223372036854775808 ≤ a) (h1 : a ≤ 9223372036854775807) : (BitVec.ofInt 64 a).msb = decide (a < 0) := by
  rw [BitVec.msb_eq_toInt, BitVec.toInt_ofInt]
  have : a.bmod (2 ^ 64) = a := by simp only [Int.bmod]; omega
  rw [this]
theorem bits_sign (a b c d : Int) (ha : -9223372036854775808 ≤ a ∧ a ≤ 9223372036854775807) (hb : -9223372036854775808 ≤ b ∧ b ≤ 9223372036854775807) (hc : -9223372036854775808 ≤ c ∧ c ≤ 9223372036854775807) (hd : -9223372036854775808 ≤ d ∧ d ≤ 9223372036854775807) :
    (bits .and .i64 (bits .xor .i64 a b) (bits .xor .i64 c d) < 0) ↔ (¬ (a < 0 ↔ b < 0) ∧ ¬ (c < 0 ↔ d < 0)) := by
  have e : ∀ x y : Int, bits .xor .i64 x y = (BitVec.ofInt 64 x ^^^ BitVec.ofInt 64 y).toInt := fun x y => wrap_toInt _
  have f : ∀ x y : Int, bits .and .i64 x y = (BitVec.ofInt 64 x &&& BitVec.ofInt 64 y).toInt := fun x y => wrap_toInt _
  rw [e, e, f, BitVec.ofInt_toInt, BitVec.ofInt_toInt]
  have g : ∀ v : BitVec 64, v.toInt < 0 ↔ v.msb = true := fun v => by rw [BitVec.msb_eq_toInt]; simp
  rw [g, BitVec.msb_and, BitVec.msb_xor, BitVec.msb_xor, msb_of a ha.1 ha.2, msb_of b hb.1 hb.2, msb_of c hc.1 hc.2, msb_of d hd.1 hd.2]
  by_cases h1 : a < 0 <;> by_cases h2 : b < 0 <;> by_cases h3 : c < 0 <;> by_cases h4 : d < 0 <;> simp [h1, h2, h3, h4]

theorem wrapu (n : Int) : IntKind.u64.wrap n = n % 18446744073709551616 := by
  simp [IntKind.wrap, IntKind.signed, IntKind.bits]
/-- A number, if it is right; else 0, and false. -/
def rngP (x : Int) : Prop := -9223372036854775808 ≤ x ∧ x ≤ 9223372036854775807
instance (x : Int) : Decidable (rngP x) := by unfold rngP; infer_instance
def numN (x : Int) : Int := if rngP x then x else 0
def numR (x : Int) : Value := .tuple #[.int .i64 (numN x), .bool (decide (rngP x))]
theorem numR_in {x : Int} (h : rngP x) : numR x = .tuple #[.int .i64 x, .bool true] := by simp [numR, numN, h]
theorem numR_out {x : Int} (h : ¬ rngP x) : numR x = .tuple #[.int .i64 0, .bool false] := by simp [numR, numN, h]
theorem numN_rng (x : Int) : rngP (numN x) := by
  unfold numN
  split
  · assumption
  · exact ⟨by omega, by omega⟩

theorem add_any (a b : Int) (w : World) (ha : rngP a) (hb : rngP b) :
    Calls Try.prog 73 #[.int .i64 a, .int .i64 b] w fun e w' => e = .returned (numR (a + b)) ∧ w = w' := by
  obtain ⟨ha0, ha1⟩ := ha
  obtain ⟨hb0, hb1⟩ := hb
  have hs := bits_sign a (wrap64 (a + b)) b (wrap64 (a + b)) ⟨ha0, ha1⟩ (by unfold wrap64; omega) ⟨hb0, hb1⟩ (by unfold wrap64; omega)
  by_cases h : rngP (a + b)
  · have hb := h
    obtain ⟨h0, h1⟩ := hb
    have e : wrap64 (a + b) = a + b := by unfold wrap64; omega
    rw [e] at hs
    have hn : ¬ bits .and .i64 (bits .xor .i64 a (a + b)) (bits .xor .i64 b (a + b)) < 0 := fun k => by
      have := hs.1 k
      omega
    clear hs e
    rw [numR_in h]
    clear h
    go_enter Try.func73, Try.ntmps73
    go_wp2
    go_ret2
    exact ⟨rfl, rfl⟩
  · have hn : bits .and .i64 (bits .xor .i64 a (wrap64 (a + b))) (bits .xor .i64 b (wrap64 (a + b))) < 0 := hs.2 (by unfold rngP at h; unfold wrap64; omega)
    clear hs
    rw [numR_out h]
    clear h
    go_enter Try.func73, Try.ntmps73
    go_wp2
    go_ret2
    exact ⟨rfl, rfl⟩
theorem sub_any (a b : Int) (w : World) (ha : rngP a) (hb : rngP b) :
    Calls Try.prog 72 #[.int .i64 a, .int .i64 b] w fun e w' => e = .returned (numR (a - b)) ∧ w = w' := by
  obtain ⟨ha0, ha1⟩ := ha
  obtain ⟨hb0, hb1⟩ := hb
  have hs := bits_sign a b a (wrap64 (a - b)) ⟨ha0, ha1⟩ ⟨hb0, hb1⟩ ⟨ha0, ha1⟩ (by unfold wrap64; omega)
  by_cases h : rngP (a - b)
  · have hb := h
    obtain ⟨h0, h1⟩ := hb
    have e : wrap64 (a - b) = a - b := by unfold wrap64; omega
    rw [e] at hs
    have hn : ¬ bits .and .i64 (bits .xor .i64 a b) (bits .xor .i64 a (a - b)) < 0 := fun k => by
      have := hs.1 k
      omega
    clear hs e
    rw [numR_in h]
    clear h
    go_enter Try.func72, Try.ntmps72
    go_wp2
    go_ret2
    exact ⟨rfl, rfl⟩
  · have hn : bits .and .i64 (bits .xor .i64 a b) (bits .xor .i64 a (wrap64 (a - b))) < 0 := hs.2 (by unfold rngP at h; unfold wrap64; omega)
    clear hs
    rw [numR_out h]
    clear h
    go_enter Try.func72, Try.ntmps72
    go_wp2
    go_ret2
    exact ⟨rfl, rfl⟩
theorem neg_any (a : Int) (w : World) (ha : rngP a) :
    Calls Try.prog 69 #[.int .i64 a] w fun e w' => e = .returned (numR (-a)) ∧ w = w' := by
  have c := sub_any 0 a w ⟨by omega, by omega⟩ ha
  have e : (0 : Int) - a = -a := by omega
  rw [e] at c
  have C := Lib.hid c
  obtain ⟨x, hx⟩ : ∃ x, numN (-a) = x := ⟨_, rfl⟩
  obtain ⟨y, hy⟩ : ∃ y, decide (rngP (-a)) = y := ⟨_, rfl⟩
  unfold numR at C ⊢
  rw [hx, hy] at C ⊢
  clear c e hx hy ha
  go_enter Try.func69, Try.ntmps69
  go_wp2_with (go_at_call 72; refine C.out.mono ?_; rintro e w' ⟨rfl, rfl⟩)
  go_ret2
  exact ⟨rfl, rfl⟩
theorem size_c (a : Int) (w : World) (ha : rngP a) :
    Calls Try.prog 77 #[.int .i64 a] w fun e w' => e = .returned (.int .u64 (a.natAbs : Nat)) ∧ w = w' := by
  obtain ⟨h0, h1⟩ := ha
  by_cases h : a < 0
  · go_enter Try.func77, Try.ntmps77
    go_wp2
    go_ret
    exact ⟨ret_int (by rw [wrapu, wrapu]; omega), rfl⟩
  · go_enter Try.func77, Try.ntmps77
    go_wp2
    go_ret
    exact ⟨ret_int (by omega), rfl⟩
end
end Go.Proofs.Ytilopgfpifhccaa
