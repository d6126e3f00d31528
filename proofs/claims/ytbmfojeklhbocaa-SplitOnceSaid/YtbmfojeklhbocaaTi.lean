/-
  Split: contracts of bounded, All, only, join.
-/
import Derived.Test.YtbmfojeklhbocaaTh
import Derived.RegionTactic
set_option linter.unusedSimpArgs false
set_option linter.unusedVariables false
namespace Go.Proofs.Ytbmfojeklhbocaa
open Go.RowKit

def bnd (T : Int) : Nat := (min (max T 0) 31).toNat
theorem bnd_le (T : Int) : bnd T ≤ 31 := by unfold bnd; omega
theorem bounded_any (T : Int) (w : World) : Calls Try.prog 30 #[.int .i64 T] w fun e w' => e = .returned (.int .i64 (bnd T : Nat)) ∧ w = w' := by
  have e : ((bnd T : Nat) : Int) = min (max T 0) 31 := by unfold bnd; omega
  rw [e]
  clear e
  rcases (show T < 0 ∨ (0 ≤ T ∧ T ≤ 31) ∨ 31 < T by omega) with h | ⟨h, h2⟩ | h
  · have e : min (max T 0) 31 = 0 := by omega
    rw [e]
    go_enter Try.func30, Try.ntmps30
    go_wp2
    go_ret
    exact ⟨ret_int (by omega), rfl⟩
  · have e : min (max T 0) 31 = T := by omega
    rw [e]
    go_enter Try.func30, Try.ntmps30
    go_wp2
    go_ret
    exact ⟨ret_int (by omega), rfl⟩
  · have e : min (max T 0) 31 = 31 := by omega
    rw [e]
    go_enter Try.func30, Try.ntmps30
    go_wp2
    go_ret
    exact ⟨ret_int (by omega), rfl⟩
theorem all_any (T : Int) (w : World) : Calls Try.prog 21 #[.int .i64 T] w fun e w' => e = .returned (.int .u32 ((2 ^ bnd T - 1 : Nat) : Int)) ∧ w = w' := by
  have B := Lib.hid fun W => bounded_any T W
  have hb := bnd_le T
  generalize bnd T = K at *
  have hp := pow_u32 K hb
  have hlt : (2 : Nat) ^ K < 2 ^ 32 := Nat.pow_lt_pow_right (by omega) (by omega)
  have hpos : 1 ≤ (2 : Nat) ^ K := Nat.one_le_two_pow
  obtain ⟨M, hM⟩ : ∃ M, (2 : Nat) ^ K = M := ⟨_, rfl⟩
  rw [hM] at hp hlt hpos ⊢
  have HP := Lib.hid hp
  have k0 : (0 : Int) ≤ (K : Int) := by omega
  have k1 : (K : Int) ≤ 31 := by omega
  have hfin : Hid (IntKind.u32.wrap ((M : Int) - 1) = ((M - 1 : Nat) : Int)) := Lib.hid (by rw [IntKind.wrap_u32]; omega)
  clear hM hb hlt
  go_enter Try.func21, Try.ntmps21
  go_wp2_with fail
  refine (B.out _).mono ?_
  rintro e w1 ⟨rfl, rfl⟩
  go_wp2
  go_ret
  exact ⟨ret_int (by have := HP.out; have := hfin.out; simp only [IntKind.wrap_u32] at *; omega), rfl⟩
/-- The one table of a set. -/
def onlyN (s : Nat) : Option Nat := (List.range 31).find? fun i => s == 2 ^ i
def onlyV : Option Nat → Value
  | some i => .tuple #[.int .i64 (i : Int), .bool true]
  | none => .tuple #[.int .i64 0, .bool false]
theorem find_take (s : Nat) : ∀ k, k < 31 → ((List.range k).find? fun i => s == 2 ^ i) = none → s = 2 ^ k → onlyN s = some k := by
  intro k hk hn hs
  unfold onlyN
  have e : List.range 31 = List.range k ++ (List.range (31 - k)).map (k + ·) := by rw [← List.range_add]; congr 1; omega
  rw [e, List.find?_append, hn, Option.none_or]
  have e2 : 31 - k = (30 - k) + 1 := by omega
  rw [e2, List.range_succ_eq_map]
  simp [hs]
theorem find_succ (s k : Nat) (h1 : ((List.range k).find? fun i => s == 2 ^ i) = none) (h2 : s ≠ 2 ^ k) : ((List.range (k + 1)).find? fun i => s == 2 ^ i) = none := by
  rw [List.range_succ, List.find?_append, h1, Option.none_or]
  simp [h2]
set_option maxHeartbeats 2000000 in
theorem only_any (s : Nat) (hs : s < 4294967296) (w : World) : Calls Try.prog 32 #[.int .u32 s] w fun e w' => e = .returned (onlyV (onlyN s)) ∧ w = w' := by
  go_enter Try.func32, Try.ntmps32
  go_wp2
  go_loop [5] (fun i => ∃ k : Nat, k ≤ 31 ∧ i = .int .i64 k ∧ ((List.range k).find? fun i => s == 2 ^ i) = none) (fun i => 31 - (intOf i).toNat)
  case atStart => exact ⟨0, by omega, rfl, rfl⟩
  case round =>
    obtain ⟨k, hk, rfl, hf⟩ := hrel
    have Hf := Lib.hid hf
    clear hf
    have k0 : (0 : Int) ≤ (k : Int) := by omega
    by_cases hlt : k < 31
    · have k1 : (k : Int) < 31 := by omega
      have hp := pow_u32 k (by omega)
      have HP := Lib.hid hp
      by_cases he : s = 2 ^ k
      · have e1 : ((s : Int) == 2 ^ k % 4294967296) = true := by rw [hp]; simp [he]
        have hT : Hid (onlyN s = some k) := Lib.hid (find_take s k hlt Hf.out he)
        clear hp he HP
        go_wp2
        go_ret2
        exact ⟨by rw [hT.out]; rfl, rfl⟩
      · have e1 : ((s : Int) == 2 ^ k % 4294967296) = false := by rw [hp]; simp; omega
        have hT := Lib.hid (find_succ s k Hf.out he)
        clear hp he HP
        go_wp2
        go_round
        case rel => exact ⟨k + 1, by omega, by go_num, hT.out⟩
        case measure => simp [intOf]; omega
    · obtain rfl : k = 31 := by omega
      have hT : Hid (onlyN s = none) := Lib.hid Hf.out
      go_wp2
      go_ret2
      exact ⟨by rw [hT.out]; rfl, rfl⟩
/-- The join of two fields. -/
def joinV (a b : TmH) : Value := if b.tb < a.tb then .agg #[.int .i64 0, .int .i64 b.tb, .int .i64 a.tb, .int .i64 b.cl, .int .i64 a.cl] else .agg #[.int .i64 0, .int .i64 a.tb, .int .i64 b.tb, .int .i64 a.cl, .int .i64 b.cl]
set_option maxRecDepth 100000 in
set_option maxHeartbeats 8000000 in
theorem join_yes (h : TmH) (A : Option Addr) (c : Nat) (a b : Tm) (hk : h.k = 4) (ho : h.op = ⟨#[61]⟩) (ha : a.h.k = 2) (hb : b.h.k = 2) (w : World) (hin : TmIn w w.heap.size (.mk h A 2 c [a, b])) :
    Calls Try.prog 33 #[(Tm.mk h A 2 c [a, b]).agg] w (RetB w (.tuple #[joinV a.h b.h, .bool true])) := by
  have hrd := hin.reads
  simp only [Tm.A, Tm.n, Tm.args] at hrd
  obtain ⟨ad, a', hA, hab, hv0, hat0⟩ := hrd.tm (k := 0) (by omega)
  obtain ⟨ad', b', hA', _, hv1, hat1⟩ := hrd.tm (k := 1) (by omega)
  subst hA
  injection hA' with hA'
  subst hA'
  simp at hv0 hv1
  subst hv0
  subst hv1
  have e0 : ad.add (0 * 11) = ad := by simp [Addr.add]
  have e1 : ad.add (1 * 11) = ⟨ad.block, ad.off + 11, none⟩ := by simp [Addr.add]
  rw [e0] at hat0
  rw [e1] at hat1
  obtain ⟨y0, y1, y2, y3, y4, y5, y6, y7, y8, y9, y10⟩ := hat0
  obtain ⟨z0, z1, z2, z3, z4, z5, z6, z7, z8, z9, z10⟩ := hat1
  obtain ⟨⟨k0, op0, no0, ⟨vk0, vi0, vs0⟩, of0, nm0, tb0, cl0⟩, A0, n0, c0, l0⟩ := a
  obtain ⟨⟨k1, op1, no1, ⟨vk1, vi1, vs1⟩, of1, nm1, tb1, cl1⟩, A1, n1, c1, l1⟩ := b
  obtain ⟨k2, op2, no2, ⟨vk2, vi2, vs2⟩, of2, nm2, tb2, cl2⟩ := h
  simp only [Tm.h, Tm.A, Tm.n, Tm.c] at ha hb y0 y1 y2 y3 y4 y5 y6 y7 y8 y9 y10 z0 z1 z2 z3 z4 z5 z6 z7 z8 z9 z10
  simp only at hk ho
  subst hk ho ha hb
  simp only [Nat.add_assoc, Nat.reduceAdd] at z1 z2 z3 z4 z5 z6 z7 z8 z9 z10
  have hX := Blk.new w 56 #[.int .u8 4, .string ⟨#[61]⟩, .bool no2, .int .u8 vk2, .int .i64 vi2, .string vs2, .string of2, .string nm2, .int .i64 tb2, .int .i64 cl2, .slice (some ad) 2 c]
  simp only [Tm.agg, TmH.agg, Tm.h, Tm.A, Tm.n, Tm.c]
  unfold joinV
  simp only
  clear hin hrd e0 e1
  have hbA : Below w.heap.size w ((w.alloc (.cells #[.int .u8 4, .string ⟨#[61]⟩, .bool no2, .int .u8 vk2, .int .i64 vi2, .string vs2, .string of2, .string nm2, .int .i64 tb2, .int .i64 cl2, .slice (some ad) 2 c] 56)).alloc (.cells #[.int .i64 0, .int .i64 0, .int .i64 0, .int .i64 0, .int .i64 0] 64)) := ball (ball (Below.refl _ _) _) _
  have hXA := hX.alloc (.cells #[.int .i64 0, .int .i64 0, .int .i64 0, .int .i64 0, .int .i64 0] 64)
  have hJA : Blk ((w.alloc (.cells #[.int .u8 4, .string ⟨#[61]⟩, .bool no2, .int .u8 vk2, .int .i64 vi2, .string vs2, .string of2, .string nm2, .int .i64 tb2, .int .i64 cl2, .slice (some ad) 2 c] 56)).alloc (.cells #[.int .i64 0, .int .i64 0, .int .i64 0, .int .i64 0, .int .i64 0] 64)) (w.heap.size + 1) 64 #[.int .i64 0, .int .i64 0, .int .i64 0, .int .i64 0, .int .i64 0] := by
    have h := Blk.new (w.alloc (.cells #[.int .u8 4, .string ⟨#[61]⟩, .bool no2, .int .u8 vk2, .int .i64 vi2, .string vs2, .string of2, .string nm2, .int .i64 tb2, .int .i64 cl2, .slice (some ad) 2 c] 56)) 64 #[.int .i64 0, .int .i64 0, .int .i64 0, .int .i64 0, .int .i64 0]
    simpa using h
  have hzA : ((w.alloc (.cells #[.int .u8 4, .string ⟨#[61]⟩, .bool no2, .int .u8 vk2, .int .i64 vi2, .string vs2, .string of2, .string nm2, .int .i64 tb2, .int .i64 cl2, .slice (some ad) 2 c] 56)).alloc (.cells #[.int .i64 0, .int .i64 0, .int .i64 0, .int .i64 0, .int .i64 0] 64)).heap.size = w.heap.size + 1 + 1 := by simp
  have HA := Lib.hid (And.intro hbA (And.intro hXA (And.intro hJA hzA)))
  clear hbA hXA hJA hzA hX
  by_cases hlt : tb1 < tb0
  all_goals
    first | rw [if_pos hlt] | rw [if_neg hlt]
    go_enter Try.func33, Try.ntmps33
    go_wp2_with fail
    obtain ⟨hbA, hXA, hJA, hzA⟩ := HA.out
    obtain ⟨WA, hWA⟩ : ∃ WA, (w.alloc (.cells #[.int .u8 4, .string ⟨#[61]⟩, .bool no2, .int .u8 vk2, .int .i64 vi2, .string vs2, .string of2, .string nm2, .int .i64 tb2, .int .i64 cl2, .slice (some ad) 2 c] 56)).alloc (.cells #[.int .i64 0, .int .i64 0, .int .i64 0, .int .i64 0, .int .i64 0] 64) = WA := ⟨_, rfl⟩
    rw [hWA] at hbA hXA hJA hzA ⊢
    have K : ∀ {p : Addr} {u : Value}, w.cell? p = some u → WA.cell? p = some u := fun h => (hbA.cell (cell_block h)).trans h
    replace y0 := K y0
    replace y1 := K y1
    replace y2 := K y2
    replace y3 := K y3
    replace y4 := K y4
    replace y5 := K y5
    replace y6 := K y6
    replace y7 := K y7
    replace y8 := K y8
    replace y9 := K y9
    replace y10 := K y10
    replace z0 := K z0
    replace z1 := K z1
    replace z2 := K z2
    replace z3 := K z3
    replace z4 := K z4
    replace z5 := K z5
    replace z6 := K z6
    replace z7 := K z7
    replace z8 := K z8
    replace z9 := K z9
    replace z10 := K z10
    have x10 : WA.cell? ⟨w.heap.size, 10, none⟩ = some (.slice (some ad) 2 c) := hXA.cell 10
    have jc0 : WA.cell? ⟨w.heap.size + 1, 0, none⟩ = some (.int .i64 0) := hJA.cell 0
    have jc1 : WA.cell? ⟨w.heap.size + 1, 1, none⟩ = some (.int .i64 0) := hJA.cell 1
    have jc2 : WA.cell? ⟨w.heap.size + 1, 2, none⟩ = some (.int .i64 0) := hJA.cell 2
    have jc3 : WA.cell? ⟨w.heap.size + 1, 3, none⟩ = some (.int .i64 0) := hJA.cell 3
    have jc4 : WA.cell? ⟨w.heap.size + 1, 4, none⟩ = some (.int .i64 0) := hJA.cell 4
    have j0 := hJA.frozen 0
    have j1 := hJA.frozen 1
    have j2 := hJA.frozen 2
    have j3 := hJA.frozen 3
    have j4 := hJA.frozen 4
    have hab2 : ad.block < WA.heap.size := by omega
    have hzl : w.heap.size + 1 < WA.heap.size := by omega
    have hzl0 : w.heap.size < WA.heap.size := by omega
    have HB := Lib.hid (And.intro hbA hJA)
    clear hWA HA K hXA hzA hab hbA hJA
    go_region
    all_goals go_wp2
    all_goals
      have X5 := (((((HB.out.2.set_ 0 (.int .i64 0)).set_ 1 (.int .i64 (if tb1 < tb0 then tb1 else tb0))).set_ 2 (.int .i64 (if tb1 < tb0 then tb0 else tb1))).set_ 3 (.int .i64 (if tb1 < tb0 then cl1 else cl0))).set_ 4 (.int .i64 (if tb1 < tb0 then cl0 else cl1)))
      first
        | (have hq : tb1 < tb0 := by omega
           simp only [if_pos hq] at X5
           have X6 := fun o o2 => (X5.alloc o).alloc o2
           have r0 := fun o o2 => (X6 o o2).cell 0
           have r1 := fun o o2 => (X6 o o2).cell 1
           have r2 := fun o o2 => (X6 o o2).cell 2
           have r3 := fun o o2 => (X6 o o2).cell 3
           have r4 := fun o o2 => (X6 o o2).cell 4
           have hbel : ∀ u0 u1 u2 u3 u4 : Value, ∀ o o2 : Obj, Below w.heap.size w (((((((WA.setCell ⟨w.heap.size + 1, 0, none⟩ u0).setCell ⟨w.heap.size + 1, 1, none⟩ u1).setCell ⟨w.heap.size + 1, 2, none⟩ u2).setCell ⟨w.heap.size + 1, 3, none⟩ u3).setCell ⟨w.heap.size + 1, 4, none⟩ u4).alloc o).alloc o2).drew := fun u0 u1 u2 u3 u4 o o2 => (ball (ball (((((HB.out.1.setCell (Nat.le_succ _) _).setCell (Nat.le_succ _) _).setCell (Nat.le_succ _) _).setCell (Nat.le_succ _) _).setCell (Nat.le_succ _) _) _) _).drew
           exact bodyPost_ret (v := .tuple #[.agg #[.int .i64 0, .int .i64 tb1, .int .i64 tb0, .int .i64 cl1, .int .i64 cl0], .bool true]) (by simp [results, Try.results33, go_sem, r0, r1, r2, r3, r4]) rfl ⟨rfl, hbel _ _ _ _ _ _ _⟩)
        | (have hq : ¬ tb1 < tb0 := by omega
           simp only [if_neg hq] at X5
           have X6 := fun o o2 => (X5.alloc o).alloc o2
           have r0 := fun o o2 => (X6 o o2).cell 0
           have r1 := fun o o2 => (X6 o o2).cell 1
           have r2 := fun o o2 => (X6 o o2).cell 2
           have r3 := fun o o2 => (X6 o o2).cell 3
           have r4 := fun o o2 => (X6 o o2).cell 4
           have hbel : ∀ u0 u1 u2 u3 u4 : Value, ∀ o o2 : Obj, Below w.heap.size w (((((((WA.setCell ⟨w.heap.size + 1, 0, none⟩ u0).setCell ⟨w.heap.size + 1, 1, none⟩ u1).setCell ⟨w.heap.size + 1, 2, none⟩ u2).setCell ⟨w.heap.size + 1, 3, none⟩ u3).setCell ⟨w.heap.size + 1, 4, none⟩ u4).alloc o).alloc o2).drew := fun u0 u1 u2 u3 u4 o o2 => (ball (ball (((((HB.out.1.setCell (Nat.le_succ _) _).setCell (Nat.le_succ _) _).setCell (Nat.le_succ _) _).setCell (Nat.le_succ _) _).setCell (Nat.le_succ _) _) _) _).drew
           exact bodyPost_ret (v := .tuple #[.agg #[.int .i64 0, .int .i64 tb0, .int .i64 tb1, .int .i64 cl0, .int .i64 cl1], .bool true]) (by simp [results, Try.results33, go_sem, r0, r1, r2, r3, r4]) rfl ⟨rfl, hbel _ _ _ _ _ _ _⟩)
end Go.Proofs.Ytbmfojeklhbocaa
