/-
  The law's folded; the reference's SameTerm.
-/
import Derived.Test.YtilopgfpifhccaaMub
import Derived.Test.YtilopgfpifhccaaMtv
import Derived.Deep.RegionHeld3
set_option linter.unusedSimpArgs false
set_option linter.unusedVariables false
namespace Go.Proofs.Ytilopgfpifhccaa
open Go.RowKit

theorem no_env18 (W : World) : EnvO W none 0 [] none 0 [] := ⟨⟨by simp [vRv], fun h => absurd h (by omega)⟩, by simp, no_tot, by decide, by decide, by simp⟩
set_option maxRecDepth 100000 in
set_option maxHeartbeats 8000000 in
theorem folded_any : ∀ (f : Nat) (t : Tm) (w : World), TmIn w w.heap.size t → shV f t → fdP f t → Calls Try.prog 17 #[t.agg] w (RetB w (.bool true)) := by
  intro f
  induction f with
  | zero => intro t w _ h; exact absurd h id
  | succ f ih =>
    intro t w hin hsh hfd
    have hl := hin.len
    have hrd := hin.reads
    have hargs := hin.args
    have CC := Lib.hid fun (W : World) (hb : Below w.heap.size w W) => rconst_any (f + 1) t W ((hin.under hb).more hb.size) hsh
    have EE := Lib.hid fun (W : World) (hb : Below w.heap.size w W) => reval_any none 0 0 [] none 0 0 [] (f + 1) t W (no_env18 W) ((hin.under hb).more hb.size) hsh
    have hTV : ¬ (t.h.k ≠ 1 ∧ coT (f + 1) t = true ∧ (evT [] [] (f + 1) t).isSome = true) := hfd.1
    obtain ⟨hn17, hsa⟩ : t.n ≤ 17 ∧ ∀ a ∈ t.args, shV f a := by
      cases t with | mk h A n c args => exact ⟨hsh.1, hsh.2.2⟩
    have HI := Lib.hid fun (v : Tm) (W : World) (hv : v ∈ t.args) (hb : Below w.heap.size w W) => ih v W (((hargs v hv).under hb).more hb.size) (hsa v hv) (hfd.2 v hv)
    obtain ⟨o, ho⟩ : ∃ o, evT [] [] (f + 1) t = o := ⟨_, rfl⟩
    obtain ⟨cb, hcb⟩ : ∃ cb, coT (f + 1) t = cb := ⟨_, rfl⟩
    have e0 : evT (List.map Rv.l []) [] (f + 1) t = o := ho
    rw [e0] at EE
    rw [ho, hcb] at hTV
    rw [hcb] at CC
    clear hin hsh ho hcb e0 hargs hsa ih hfd
    obtain ⟨⟨k0, op0, no0, ⟨vk0, vi0, vs0⟩, of0, nm0, tb0, cl0⟩, A0, n0, c0, l0⟩ := t
    simp only [Tm.agg, TmH.agg, Tm.h, Tm.A, Tm.n, Tm.c, Tm.args] at *
    have nI : (n0 : Int) ≤ 17 := by omega
    have HTV := Lib.hid hTV
    have HR := Lib.hid hrd
    clear hrd hn17 hTV
    have hb0 : Below w.heap.size w (w.alloc (.cells #[.int .u8 k0, .string op0, .bool no0, .int .u8 vk0, .int .i64 vi0, .string vs0, .string of0, .string nm0, .int .i64 tb0, .int .i64 cl0, .slice A0 n0 c0] 26)) := ball (Below.refl _ _) _
    have hX0 : Blk (w.alloc (.cells #[.int .u8 k0, .string op0, .bool no0, .int .u8 vk0, .int .i64 vi0, .string vs0, .string of0, .string nm0, .int .i64 tb0, .int .i64 cl0, .slice A0 n0 c0] 26)) w.heap.size 26 #[.int .u8 k0, .string op0, .bool no0, .int .u8 vk0, .int .i64 vi0, .string vs0, .string of0, .string nm0, .int .i64 tb0, .int .i64 cl0, .slice A0 n0 c0] := Blk.new _ _ _
    by_cases h1 : k0 = 1
    · subst h1
      have hbW := hb0
      have hXW := hX0
      clear hb0 hX0
      go_enter Try.func17, Try.ntmps17
      clear HTV CC EE
      obtain ⟨WT, hWT⟩ : ∃ WT, WT = (w.alloc (.cells #[.int .u8 1, .string op0, .bool no0, .int .u8 vk0, .int .i64 vi0, .string vs0, .string of0, .string nm0, .int .i64 tb0, .int .i64 cl0, .slice A0 n0 c0] 26)) := ⟨_, rfl⟩
      have x10 : (w.alloc (.cells #[.int .u8 1, .string op0, .bool no0, .int .u8 vk0, .int .i64 vi0, .string vs0, .string of0, .string nm0, .int .i64 tb0, .int .i64 cl0, .slice A0 n0 c0] 26)).cell? ⟨w.heap.size, 10, none⟩ = some (.slice A0 n0 c0) := hXW.cell 10
      go_wp2_with fail
      clear x10
      try rw [← hWT]
      rw [← hWT] at hbW
      clear hWT hXW
      go_loopw [21] (fun i wr => ∃ k : Nat, k ≤ n0 ∧ i = .int .i64 k ∧ Below WT.heap.size WT wr) (fun i _ => n0 - (intOf i).toNat)
      case atStart => exact ⟨0, Nat.zero_le _, rfl, Below.refl _ _⟩
      case round =>
        obtain ⟨k, hk, rfl, hb⟩ := hrel
        have q0 : (0 : Int) ≤ (k : Int) := by omega
        have hbw := bto0 hbW hb
        by_cases hlt : k < n0
        · have q1 : (k : Int) < (n0 : Int) := by omega
          obtain ⟨ad, v1, rfl, hab, hv1, hat⟩ := (HR.out.below hbw).tm hlt
          have HC := Lib.hid fun (W : World) (hW : Below wr.heap.size wr W) => HI.out v1 W (List.mem_of_getElem? hv1) (bto0 hbw hW)
          clear hv1
          obtain ⟨⟨k1, op1, no1, ⟨vk1, vi1, vs1⟩, of1, nm1, tb1, cl1⟩, A1, n1, c1, l1⟩ := v1
          obtain ⟨y0, y1, y2, y3, y4, y5, y6, y7, y8, y9, y10⟩ := hat
          simp only [Tm.agg, TmH.agg, Tm.h, Tm.A, Tm.n, Tm.c] at HC y0 y1 y2 y3 y4 y5 y6 y7 y8 y9 y10
          go_wp2_with fail
          refine (HC.out _ (ball (Below.refl _ _) _)).mono ?_
          rintro e w1 ⟨rfl, hb1⟩
          go_wp2
          go_roundw
          case rel => exact ⟨k + 1, by omega, by go_num, bto0 hb (bto0 (ball (Below.refl _ _) _) hb1)⟩
          case measure => simp [intOf]; omega
        · obtain rfl : n0 = k := by omega
          go_wp2
          go_ret
          exact ⟨rfl, hbw⟩
    · have e1 : (k0 != 1) = true := by simpa using h1
      cases cb with
      | false =>
        go_enter Try.func17, Try.ntmps17
        go_wp2_with fail
        refine (CC.out _ hb0).mono ?_
        rintro e w1 ⟨rfl, hb1⟩
        have hbW := bto0 hb0 hb1
        have hXW := blkOf hb1 (by simp only [alloc_size]; omega) hX0
        clear hb0 hX0 hb1
        clear HTV CC EE
        obtain ⟨WT, hWT⟩ : ∃ WT, WT = w1 := ⟨_, rfl⟩
        have x10 : w1.cell? ⟨w.heap.size, 10, none⟩ = some (.slice A0 n0 c0) := hXW.cell 10
        go_wp2_with fail
        clear x10
        try rw [← hWT]
        rw [← hWT] at hbW
        clear hWT hXW
        go_loopw [21] (fun i wr => ∃ k : Nat, k ≤ n0 ∧ i = .int .i64 k ∧ Below WT.heap.size WT wr) (fun i _ => n0 - (intOf i).toNat)
        case atStart => exact ⟨0, Nat.zero_le _, rfl, Below.refl _ _⟩
        case round =>
          obtain ⟨k, hk, rfl, hb⟩ := hrel
          have q0 : (0 : Int) ≤ (k : Int) := by omega
          have hbw := bto0 hbW hb
          by_cases hlt : k < n0
          · have q1 : (k : Int) < (n0 : Int) := by omega
            obtain ⟨ad, v1, rfl, hab, hv1, hat⟩ := (HR.out.below hbw).tm hlt
            have HC := Lib.hid fun (W : World) (hW : Below wr.heap.size wr W) => HI.out v1 W (List.mem_of_getElem? hv1) (bto0 hbw hW)
            clear hv1
            obtain ⟨⟨k1, op1, no1, ⟨vk1, vi1, vs1⟩, of1, nm1, tb1, cl1⟩, A1, n1, c1, l1⟩ := v1
            obtain ⟨y0, y1, y2, y3, y4, y5, y6, y7, y8, y9, y10⟩ := hat
            simp only [Tm.agg, TmH.agg, Tm.h, Tm.A, Tm.n, Tm.c] at HC y0 y1 y2 y3 y4 y5 y6 y7 y8 y9 y10
            go_wp2_with fail
            refine (HC.out _ (ball (Below.refl _ _) _)).mono ?_
            rintro e w1 ⟨rfl, hb1⟩
            go_wp2
            go_roundw
            case rel => exact ⟨k + 1, by omega, by go_num, bto0 hb (bto0 (ball (Below.refl _ _) _) hb1)⟩
            case measure => simp [intOf]; omega
          · obtain rfl : n0 = k := by omega
            go_wp2
            go_ret
            exact ⟨rfl, hbw⟩
      | true =>
        obtain rfl : o = none := by
          cases o with
          | none => rfl
          | some y => exact absurd ⟨h1, rfl, rfl⟩ HTV.out
        have eR : retR none = .agg #[.int .u8 0, .int .i64 0, .string ⟨#[]⟩, .bool true] := rfl
        rw [eR] at EE
        have hfl : ∀ W : World, (Instr.field 36 (.agg #[.int .u8 0, .int .i64 0, .string ⟨#[]⟩, .bool true]) 1).run Try.prog W = .ok (.bool true) W := fun W => by kernel_rfl
        go_enter Try.func17, Try.ntmps17
        go_wp2_with fail
        refine (CC.out _ hb0).mono ?_
        rintro e w1 ⟨rfl, hb1⟩
        have hX1 := blkOf hb1 (by simp only [alloc_size]; omega) hX0
        have hbw1 := bto0 hb0 hb1
        have x0 : w1.cell? ⟨w.heap.size, 0, none⟩ = some (.int .u8 k0) := hX1.cell 0
        have x1 : w1.cell? ⟨w.heap.size, 1, none⟩ = some (.string op0) := hX1.cell 1
        have x2 : w1.cell? ⟨w.heap.size, 2, none⟩ = some (.bool no0) := hX1.cell 2
        have x3 : w1.cell? ⟨w.heap.size, 3, none⟩ = some (.int .u8 vk0) := hX1.cell 3
        have x4 : w1.cell? ⟨w.heap.size, 4, none⟩ = some (.int .i64 vi0) := hX1.cell 4
        have x5 : w1.cell? ⟨w.heap.size, 5, none⟩ = some (.string vs0) := hX1.cell 5
        have x6 : w1.cell? ⟨w.heap.size, 6, none⟩ = some (.string of0) := hX1.cell 6
        have x7 : w1.cell? ⟨w.heap.size, 7, none⟩ = some (.string nm0) := hX1.cell 7
        have x8 : w1.cell? ⟨w.heap.size, 8, none⟩ = some (.int .i64 tb0) := hX1.cell 8
        have x9 : w1.cell? ⟨w.heap.size, 9, none⟩ = some (.int .i64 cl0) := hX1.cell 9
        have x10 : w1.cell? ⟨w.heap.size, 10, none⟩ = some (.slice A0 n0 c0) := hX1.cell 10
        go_wp2_with fail
        refine (EE.out _ hbw1).mono ?_
        rintro e w2 ⟨rfl, hb2⟩
        clear x0 x1 x2 x3 x4 x5 x6 x7 x8 x9 x10
        have hXW := blkOf hb2 hX1.lt hX1
        have hbW := bto0 hbw1 hb2
        clear hb0 hX0 hb1 hX1 hbw1 hb2
        clear HTV CC EE
        obtain ⟨WT, hWT⟩ : ∃ WT, WT = w2 := ⟨_, rfl⟩
        have x10 : w2.cell? ⟨w.heap.size, 10, none⟩ = some (.slice A0 n0 c0) := hXW.cell 10
        go_wp2_with fail
        clear x10
        try rw [← hWT]
        rw [← hWT] at hbW
        clear hWT hXW
        go_loopw [21] (fun i wr => ∃ k : Nat, k ≤ n0 ∧ i = .int .i64 k ∧ Below WT.heap.size WT wr) (fun i _ => n0 - (intOf i).toNat)
        case atStart => exact ⟨0, Nat.zero_le _, rfl, Below.refl _ _⟩
        case round =>
          obtain ⟨k, hk, rfl, hb⟩ := hrel
          have q0 : (0 : Int) ≤ (k : Int) := by omega
          have hbw := bto0 hbW hb
          by_cases hlt : k < n0
          · have q1 : (k : Int) < (n0 : Int) := by omega
            obtain ⟨ad, v1, rfl, hab, hv1, hat⟩ := (HR.out.below hbw).tm hlt
            have HC := Lib.hid fun (W : World) (hW : Below wr.heap.size wr W) => HI.out v1 W (List.mem_of_getElem? hv1) (bto0 hbw hW)
            clear hv1
            obtain ⟨⟨k1, op1, no1, ⟨vk1, vi1, vs1⟩, of1, nm1, tb1, cl1⟩, A1, n1, c1, l1⟩ := v1
            obtain ⟨y0, y1, y2, y3, y4, y5, y6, y7, y8, y9, y10⟩ := hat
            simp only [Tm.agg, TmH.agg, Tm.h, Tm.A, Tm.n, Tm.c] at HC y0 y1 y2 y3 y4 y5 y6 y7 y8 y9 y10
            go_wp2_with fail
            refine (HC.out _ (ball (Below.refl _ _) _)).mono ?_
            rintro e w1 ⟨rfl, hb1⟩
            go_wp2
            go_roundw
            case rel => exact ⟨k + 1, by omega, by go_num, bto0 hb (bto0 (ball (Below.refl _ _) _) hb1)⟩
            case measure => simp [intOf]; omega
          · obtain rfl : n0 = k := by omega
            go_wp2
            go_ret
            exact ⟨rfl, hbw⟩

set_option maxRecDepth 100000 in
set_option maxHeartbeats 8000000 in
theorem same18_any : ∀ (f : Nat) (t u : Tm) (w : World), TmIn w w.heap.size t → TmIn w w.heap.size u → shV f t → Sm f t u → Calls Try.prog 18 #[t.agg, u.agg] w (RetB w (.bool true)) := by
  intro f
  induction f with
  | zero => intro t u w _ _ h; exact absurd h id
  | succ f ih =>
    intro t u w hin hiu hsh hsm
    have hl := hin.len
    have hlu := hiu.len
    have hrd := hin.reads
    have hrdu := hiu.reads
    have hargs := hin.args
    have hargsu := hiu.args
    obtain ⟨hn17, hsa⟩ : t.n ≤ 17 ∧ ∀ a ∈ t.args, shV f a := by
      cases t with | mk h A n c args => exact ⟨hsh.1, hsh.2.2⟩
    have HI := Lib.hid fun (v x : Tm) (W : World) (hv : v ∈ t.args) (hx : x ∈ u.args) (hs : Sm f v x) (hb : Below w.heap.size w W) => ih v x W (((hargs v hv).under hb).more hb.size) (((hargsu x hx).under hb).more hb.size) (hsa v hv) hs
    obtain ⟨hh, hall⟩ := hsm
    clear hin hiu hsh hargs hargsu hsa ih
    obtain ⟨⟨k0, op0, no0, ⟨vk0, vi0, vs0⟩, of0, nm0, tb0, cl0⟩, A0, n0, c0, l0⟩ := t
    obtain ⟨hu, A2, n2, c2, l2⟩ := u
    simp only [Tm.agg, TmH.agg, Tm.h, Tm.A, Tm.n, Tm.c, Tm.args] at *
    subst hh
    have hlen := hall.1
    obtain rfl : n2 = n0 := by omega
    have nI : (n2 : Int) ≤ 17 := by omega
    have HR := Lib.hid (And.intro hrd hrdu)
    have HA := Lib.hid hall
    clear hrd hrdu hall hl hlu hlen hn17
    have hb0 : Below w.heap.size w ((w.alloc (.cells #[.int .u8 k0, .string op0, .bool no0, .int .u8 vk0, .int .i64 vi0, .string vs0, .string of0, .string nm0, .int .i64 tb0, .int .i64 cl0, .slice A0 n2 c0] 26)).alloc (.cells #[.int .u8 k0, .string op0, .bool no0, .int .u8 vk0, .int .i64 vi0, .string vs0, .string of0, .string nm0, .int .i64 tb0, .int .i64 cl0, .slice A2 n2 c2] 26)) := ball (ball (Below.refl _ _) _) _
    have hX0 : Blk ((w.alloc (.cells #[.int .u8 k0, .string op0, .bool no0, .int .u8 vk0, .int .i64 vi0, .string vs0, .string of0, .string nm0, .int .i64 tb0, .int .i64 cl0, .slice A0 n2 c0] 26)).alloc (.cells #[.int .u8 k0, .string op0, .bool no0, .int .u8 vk0, .int .i64 vi0, .string vs0, .string of0, .string nm0, .int .i64 tb0, .int .i64 cl0, .slice A2 n2 c2] 26)) w.heap.size 26 #[.int .u8 k0, .string op0, .bool no0, .int .u8 vk0, .int .i64 vi0, .string vs0, .string of0, .string nm0, .int .i64 tb0, .int .i64 cl0, .slice A0 n2 c0] := (Blk.new _ _ _).alloc _
    have hY0 : Blk ((w.alloc (.cells #[.int .u8 k0, .string op0, .bool no0, .int .u8 vk0, .int .i64 vi0, .string vs0, .string of0, .string nm0, .int .i64 tb0, .int .i64 cl0, .slice A0 n2 c0] 26)).alloc (.cells #[.int .u8 k0, .string op0, .bool no0, .int .u8 vk0, .int .i64 vi0, .string vs0, .string of0, .string nm0, .int .i64 tb0, .int .i64 cl0, .slice A2 n2 c2] 26)) (w.heap.size + 1) 26 #[.int .u8 k0, .string op0, .bool no0, .int .u8 vk0, .int .i64 vi0, .string vs0, .string of0, .string nm0, .int .i64 tb0, .int .i64 cl0, .slice A2 n2 c2] := Blk.newAt (by simp)
    have x10 : ((w.alloc (.cells #[.int .u8 k0, .string op0, .bool no0, .int .u8 vk0, .int .i64 vi0, .string vs0, .string of0, .string nm0, .int .i64 tb0, .int .i64 cl0, .slice A0 n2 c0] 26)).alloc (.cells #[.int .u8 k0, .string op0, .bool no0, .int .u8 vk0, .int .i64 vi0, .string vs0, .string of0, .string nm0, .int .i64 tb0, .int .i64 cl0, .slice A2 n2 c2] 26)).cell? ⟨w.heap.size, 10, none⟩ = some (.slice A0 n2 c0) := hX0.cell 10
    have u10 : ((w.alloc (.cells #[.int .u8 k0, .string op0, .bool no0, .int .u8 vk0, .int .i64 vi0, .string vs0, .string of0, .string nm0, .int .i64 tb0, .int .i64 cl0, .slice A0 n2 c0] 26)).alloc (.cells #[.int .u8 k0, .string op0, .bool no0, .int .u8 vk0, .int .i64 vi0, .string vs0, .string of0, .string nm0, .int .i64 tb0, .int .i64 cl0, .slice A2 n2 c2] 26)).cell? ⟨w.heap.size + 1, 10, none⟩ = some (.slice A2 n2 c2) := hY0.cell 10
    go_enter Try.func18, Try.ntmps18
    go_wp2_with fail
    clear x10 u10
    obtain ⟨WT, hWT⟩ : ∃ WT, ((w.alloc (.cells #[.int .u8 k0, .string op0, .bool no0, .int .u8 vk0, .int .i64 vi0, .string vs0, .string of0, .string nm0, .int .i64 tb0, .int .i64 cl0, .slice A0 n2 c0] 26)).alloc (.cells #[.int .u8 k0, .string op0, .bool no0, .int .u8 vk0, .int .i64 vi0, .string vs0, .string of0, .string nm0, .int .i64 tb0, .int .i64 cl0, .slice A2 n2 c2] 26)) = WT := ⟨_, rfl⟩
    have hzT : w.heap.size + 2 ≤ WT.heap.size := by rw [← hWT]; simp
    rw [hWT] at hb0 hX0 hY0 ⊢
    clear hWT
    go_loopw [72] (fun i wr => ∃ k : Nat, k ≤ n2 ∧ i = .int .i64 k ∧ Below WT.heap.size WT wr) (fun i _ => n2 - (intOf i).toNat)
    case atStart => exact ⟨0, Nat.zero_le _, rfl, Below.refl _ _⟩
    case round =>
      obtain ⟨k, hk, rfl, hb⟩ := hrel
      have q0 : (0 : Int) ≤ (k : Int) := by omega
      have hbw := bto0 hb0 hb
      have hzr := hb.size
      have x10 : wr.cell? ⟨w.heap.size, 10, none⟩ = some (.slice A0 n2 c0) := (blkOf hb (by omega) hX0).cell 10
      have u10 : wr.cell? ⟨w.heap.size + 1, 10, none⟩ = some (.slice A2 n2 c2) := (blkOf hb (by omega) hY0).cell 10
      by_cases hlt : k < n2
      · have q1 : (k : Int) < (n2 : Int) := by omega
        obtain ⟨ad, v1, rfl, hab, hv1, hat⟩ := (HR.out.1.below hbw).tm hlt
        obtain ⟨ad2, v2, rfl, hab2, hv2, hat2⟩ := (HR.out.2.below hbw).tm hlt
        have HC := Lib.hid fun (W : World) (hW : Below wr.heap.size wr W) => HI.out v1 v2 W (List.mem_of_getElem? hv1) (List.mem_of_getElem? hv2) (HA.out.2 k v1 v2 hv1 hv2) (bto0 hbw hW)
        clear hv1 hv2
        obtain ⟨⟨k1, op1, no1, ⟨vk1, vi1, vs1⟩, of1, nm1, tb1, cl1⟩, A1, n1, c1, l1⟩ := v1
        obtain ⟨⟨k3, op3, no3, ⟨vk3, vi3, vs3⟩, of3, nm3, tb3, cl3⟩, A3, n3, c3, l3⟩ := v2
        obtain ⟨y0, y1, y2, y3, y4, y5, y6, y7, y8, y9, y10⟩ := hat
        obtain ⟨z0, z1, z2, z3, z4, z5, z6, z7, z8, z9, z10⟩ := hat2
        simp only [Tm.agg, TmH.agg, Tm.h, Tm.A, Tm.n, Tm.c] at HC y0 y1 y2 y3 y4 y5 y6 y7 y8 y9 y10 z0 z1 z2 z3 z4 z5 z6 z7 z8 z9 z10
        have hS : Hid (∀ W, Below wr.heap.size wr W → W.cell? ⟨w.heap.size, 10, none⟩ = some (.slice (some ad) n2 c0) ∧ W.cell? ⟨w.heap.size + 1, 10, none⟩ = some (.slice (some ad2) n2 c2) ∧ W.cell? (ad.add (k * 11)) = some (.int .u8 k1) ∧ W.cell? ⟨(ad.add (k * 11)).block, (ad.add (k * 11)).off + 1, none⟩ = some (.string op1) ∧ W.cell? ⟨(ad.add (k * 11)).block, (ad.add (k * 11)).off + 2, none⟩ = some (.bool no1) ∧ W.cell? ⟨(ad.add (k * 11)).block, (ad.add (k * 11)).off + 3, none⟩ = some (.int .u8 vk1) ∧ W.cell? ⟨(ad.add (k * 11)).block, (ad.add (k * 11)).off + 4, none⟩ = some (.int .i64 vi1) ∧ W.cell? ⟨(ad.add (k * 11)).block, (ad.add (k * 11)).off + 5, none⟩ = some (.string vs1) ∧ W.cell? ⟨(ad.add (k * 11)).block, (ad.add (k * 11)).off + 6, none⟩ = some (.string of1) ∧ W.cell? ⟨(ad.add (k * 11)).block, (ad.add (k * 11)).off + 7, none⟩ = some (.string nm1) ∧ W.cell? ⟨(ad.add (k * 11)).block, (ad.add (k * 11)).off + 8, none⟩ = some (.int .i64 tb1) ∧ W.cell? ⟨(ad.add (k * 11)).block, (ad.add (k * 11)).off + 9, none⟩ = some (.int .i64 cl1) ∧ W.cell? ⟨(ad.add (k * 11)).block, (ad.add (k * 11)).off + 10, none⟩ = some (.slice A1 n1 c1) ∧ W.cell? (ad2.add (k * 11)) = some (.int .u8 k3) ∧ W.cell? ⟨(ad2.add (k * 11)).block, (ad2.add (k * 11)).off + 1, none⟩ = some (.string op3) ∧ W.cell? ⟨(ad2.add (k * 11)).block, (ad2.add (k * 11)).off + 2, none⟩ = some (.bool no3) ∧ W.cell? ⟨(ad2.add (k * 11)).block, (ad2.add (k * 11)).off + 3, none⟩ = some (.int .u8 vk3) ∧ W.cell? ⟨(ad2.add (k * 11)).block, (ad2.add (k * 11)).off + 4, none⟩ = some (.int .i64 vi3) ∧ W.cell? ⟨(ad2.add (k * 11)).block, (ad2.add (k * 11)).off + 5, none⟩ = some (.string vs3) ∧ W.cell? ⟨(ad2.add (k * 11)).block, (ad2.add (k * 11)).off + 6, none⟩ = some (.string of3) ∧ W.cell? ⟨(ad2.add (k * 11)).block, (ad2.add (k * 11)).off + 7, none⟩ = some (.string nm3) ∧ W.cell? ⟨(ad2.add (k * 11)).block, (ad2.add (k * 11)).off + 8, none⟩ = some (.int .i64 tb3) ∧ W.cell? ⟨(ad2.add (k * 11)).block, (ad2.add (k * 11)).off + 9, none⟩ = some (.int .i64 cl3) ∧ W.cell? ⟨(ad2.add (k * 11)).block, (ad2.add (k * 11)).off + 10, none⟩ = some (.slice A3 n3 c3) ∧ Below wr.heap.size wr W) := by
          refine Lib.hid fun W hW => ⟨(hW.cell ?_).trans x10, (hW.cell ?_).trans u10, (hW.cell ?_).trans y0, (hW.cell ?_).trans y1, (hW.cell ?_).trans y2, (hW.cell ?_).trans y3, (hW.cell ?_).trans y4, (hW.cell ?_).trans y5, (hW.cell ?_).trans y6, (hW.cell ?_).trans y7, (hW.cell ?_).trans y8, (hW.cell ?_).trans y9, (hW.cell ?_).trans y10, (hW.cell ?_).trans z0, (hW.cell ?_).trans z1, (hW.cell ?_).trans z2, (hW.cell ?_).trans z3, (hW.cell ?_).trans z4, (hW.cell ?_).trans z5, (hW.cell ?_).trans z6, (hW.cell ?_).trans z7, (hW.cell ?_).trans z8, (hW.cell ?_).trans z9, (hW.cell ?_).trans z10, hW⟩
          all_goals (have := hb.size; simp only [block_of_add]; omega)
        go_wp2_with fail
        go_region_held3 (fun W => W.cell? ⟨w.heap.size, 10, none⟩ = some (.slice (some ad) n2 c0) ∧ W.cell? ⟨w.heap.size + 1, 10, none⟩ = some (.slice (some ad2) n2 c2) ∧ W.cell? (ad.add (k * 11)) = some (.int .u8 k1) ∧ W.cell? ⟨(ad.add (k * 11)).block, (ad.add (k * 11)).off + 1, none⟩ = some (.string op1) ∧ W.cell? ⟨(ad.add (k * 11)).block, (ad.add (k * 11)).off + 2, none⟩ = some (.bool no1) ∧ W.cell? ⟨(ad.add (k * 11)).block, (ad.add (k * 11)).off + 3, none⟩ = some (.int .u8 vk1) ∧ W.cell? ⟨(ad.add (k * 11)).block, (ad.add (k * 11)).off + 4, none⟩ = some (.int .i64 vi1) ∧ W.cell? ⟨(ad.add (k * 11)).block, (ad.add (k * 11)).off + 5, none⟩ = some (.string vs1) ∧ W.cell? ⟨(ad.add (k * 11)).block, (ad.add (k * 11)).off + 6, none⟩ = some (.string of1) ∧ W.cell? ⟨(ad.add (k * 11)).block, (ad.add (k * 11)).off + 7, none⟩ = some (.string nm1) ∧ W.cell? ⟨(ad.add (k * 11)).block, (ad.add (k * 11)).off + 8, none⟩ = some (.int .i64 tb1) ∧ W.cell? ⟨(ad.add (k * 11)).block, (ad.add (k * 11)).off + 9, none⟩ = some (.int .i64 cl1) ∧ W.cell? ⟨(ad.add (k * 11)).block, (ad.add (k * 11)).off + 10, none⟩ = some (.slice A1 n1 c1) ∧ W.cell? (ad2.add (k * 11)) = some (.int .u8 k3) ∧ W.cell? ⟨(ad2.add (k * 11)).block, (ad2.add (k * 11)).off + 1, none⟩ = some (.string op3) ∧ W.cell? ⟨(ad2.add (k * 11)).block, (ad2.add (k * 11)).off + 2, none⟩ = some (.bool no3) ∧ W.cell? ⟨(ad2.add (k * 11)).block, (ad2.add (k * 11)).off + 3, none⟩ = some (.int .u8 vk3) ∧ W.cell? ⟨(ad2.add (k * 11)).block, (ad2.add (k * 11)).off + 4, none⟩ = some (.int .i64 vi3) ∧ W.cell? ⟨(ad2.add (k * 11)).block, (ad2.add (k * 11)).off + 5, none⟩ = some (.string vs3) ∧ W.cell? ⟨(ad2.add (k * 11)).block, (ad2.add (k * 11)).off + 6, none⟩ = some (.string of3) ∧ W.cell? ⟨(ad2.add (k * 11)).block, (ad2.add (k * 11)).off + 7, none⟩ = some (.string nm3) ∧ W.cell? ⟨(ad2.add (k * 11)).block, (ad2.add (k * 11)).off + 8, none⟩ = some (.int .i64 tb3) ∧ W.cell? ⟨(ad2.add (k * 11)).block, (ad2.add (k * 11)).off + 9, none⟩ = some (.int .i64 cl3) ∧ W.cell? ⟨(ad2.add (k * 11)).block, (ad2.add (k * 11)).off + 10, none⟩ = some (.slice A3 n3 c3) ∧ Below wr.heap.size wr W)
          (first | exact hS.out _ (by (with_reducible repeat (first | exact Below.refl _ _ | exact hb1 | refine bto0 ?_ hb1 | refine bdr ?_ _ | refine Below.drew ?_ | refine ball ?_ _))) | assumption)
          (first | (go_at_call 18; (with_reducible refine (HC.out _ (by (with_reducible repeat (first | exact Below.refl _ _ | exact hb1 | exact hb1 | refine bto0 ?_ hb1 | refine bto0 ?_ hb1 | refine bdr ?_ _ | refine Below.drew ?_ | refine ball ?_ _)))).mono ?_); rintro e w1 ⟨rfl, hb1⟩))
        have hbb : Below wr.heap.size wr w1 := by (with_reducible repeat (first | exact Below.refl _ _ | exact hb1 | refine bto0 ?_ hb1 | refine bdr ?_ _ | refine Below.drew ?_ | refine ball ?_ _))
        go_wp2
        go_roundw
        case rel => exact ⟨k + 1, by omega, by go_num, bto0 hb hbb⟩
        case measure => simp [intOf]; omega
      · obtain rfl : n2 = k := by omega
        go_wp2
        go_ret
        exact ⟨rfl, hbw⟩
end Go.Proofs.Ytilopgfpifhccaa
