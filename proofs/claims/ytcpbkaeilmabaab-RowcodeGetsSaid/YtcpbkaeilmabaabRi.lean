/-
  Bytes as values: contract of the program's get.
-/
import Derived.Test.YtcpbkaeilmabaabRh
import Derived.BigQuiet
namespace Go.Proofs.Ytcpbkaeilmabaab
open Go.RowKit

set_option maxRecDepth 100000 in
set_option maxHeartbeats 4000000 in
theorem get_any (A : Option Addr) (n c B : Nat) (l : List UInt8) (w : World) (hr : Reads w B 1 A n (bL l)) (hB : B ≤ w.heap.size) (hc : n ≤ c) (hn : n ≤ 10000) :
    Calls Try.prog 43 #[.slice A n c] w (RetGet w B (decV l)) := by
  have hl := hr.bytes_len
  rcases l with _ | ⟨x, s⟩
  · simp only [List.length_nil] at hl
    subst hl
    go_enter Try.func43, Try.ntmps43
    go_wp2
    exact bodyPost_ret (v := .tuple #[.agg #[.int .u8 0, .int .i64 0, .string ⟨#[]⟩], .slice none 0 0, .int .i64 3]) (by simp [results, Try.results43, go_sem]) rfl (RetGet.bad_ (ball (Below.refl _ _) _) rfl)
  · simp only [List.length_cons] at hl
    obtain ⟨ad, b, rfl, hb, hx, c0⟩ := hr.byte (k := 0) (by omega)
    simp only [List.getElem?_cons_zero, Option.some.injEq] at hx
    subst hx
    have g1 : (0 : Int) < (n : Int) := by omega
    have g2 : 0 < n := by omega
    have e0 : (n == 0) = false := by simp; omega
    have e0' : ((n : Int) == 0) = false := by simp; omega
    obtain ⟨A', sl, hcut⟩ := cutb_lo (A := some ad) (n := n) (c := c) .i64 1 1 rfl (by omega) hc
    have c1 : w.cell? ad = some (.int .u8 (x.toNat : Int)) := by simpa [Addr.add] using c0
    have xb := x.toNat_lt
    have d0 : ∀ o, (w.alloc o).cell? ad = some (.int .u8 (x.toNat : Int)) := fun o => (World.cell?_alloc_lt w o ad (by omega)).trans c1
    have HR : Hid (∀ o k, Reads ((w.alloc o).drewN k) B 1 A' (n - 1) (bL s)) := fun o k => hcut _ _ _ ((hr.alloc hB o).drewN k)
    have XO : Hid (∀ w1 k, Below ((w.alloc (.cells #[.int .u8 0, .int .i64 0, .string ⟨#[]⟩] 56)).drewN k).heap.size ((w.alloc (.cells #[.int .u8 0, .int .i64 0, .string ⟨#[]⟩] 56)).drewN k) w1 → Blk w1 w.heap.size 56 #[.int .u8 0, .int .i64 0, .string ⟨#[]⟩]) :=
      fun w1 k h => ((Blk.new w 56 _).drewN k).below h (by simp)
    clear hcut hr hl c0 c1
    have hk : x.toNat = 0 ∨ x.toNat = 1 ∨ x.toNat = 2 ∨ x.toNat = 3 ∨ 3 < x.toNat := by omega
    rcases hk with hk | hk | hk | hk | hk
    rotate_left
    · have hx' : (x.toNat : Int) = 1 := by omega
      rw [hx'] at d0
      have hD : decV (x :: s) = decI s := by
        show (if x.toNat = 0 then _ else _) = _
        rw [hk]; rfl
      rw [hD]
      clear hD hx' hk
      have M := Lib.hid fun W hW hW2 => getInt_any A' (n - 1) (c - 1) B s W hW hW2 (by omega) (by omega)
      go_enter Try.func43, Try.ntmps43
      go_wp2
      go_quiet (fail)
      go_wp2_with fail
      refine (M.out _ (HR.out _ _) (by simp; omega)).mono ?_
      rcases hd : decI s with ke | ⟨v, r⟩
      · rintro e w1 ⟨hb1, rfl⟩
        have X1 := XO.out w1 _ hb1
        have y0 := X1.cell 0; have y1 := X1.cell 1; have y2 := X1.cell 2; have z0 := X1.frozen 0; have z1 := X1.frozen 1; have z2 := X1.frozen 2
        have Hd := Lib.hid hd; clear hd
        go_wp2
        exact bodyPost_ret (v := .tuple #[.agg #[.int .u8 0, .int .i64 0, .string ⟨#[]⟩], .slice none 0 0, .int .i64 ke]) (by simp [results, Try.results43, go_sem, y0, y1, y2]) rfl (by rw [Hd.out]; exact RetGet.bad_ (by have hz : Below w.heap.size w w1 := bto0 (bdr (ball (Below.refl _ _) _) _) hb1; repeat (first | exact hz | refine Below.setCell ?_ (show w.heap.size ≤ w.heap.size from Nat.le_refl _) _)) rfl)
      · rintro e w1 ⟨hb1, A3, n3, c3, rfl, hc3, hr3⟩
        have X1 := XO.out w1 _ hb1
        have y0 := X1.cell 0; have y1 := X1.cell 1; have y2 := X1.cell 2; have z0 := X1.frozen 0; have z1 := X1.frozen 1; have z2 := X1.frozen 2
        obtain ⟨vk, vi, vs⟩ := v
        have Hd := Lib.hid hd; clear hd
        go_wp2
        exact bodyPost_ret (v := .tuple #[.agg #[.int .u8 vk, .int .i64 vi, .string vs], .slice A3 n3 c3, .int .i64 0]) (by simp [results, Try.results43, go_sem, y0, y1, y2]) rfl (by rw [Hd.out]; exact RetGet.ok_ (by have hz : Below w.heap.size w w1 := bto0 (bdr (ball (Below.refl _ _) _) _) hb1; repeat (first | exact hz | refine Below.setCell ?_ (show w.heap.size ≤ w.heap.size from Nat.le_refl _) _)) (by repeat (first | exact hr3 | refine Reads.setCell ?_ (by exact hB) _)) hc3 rfl)
    · have hx' : (x.toNat : Int) = 2 := by omega
      rw [hx'] at d0
      have hD : decV (x :: s) = decB s := by
        show (if x.toNat = 0 then _ else _) = _
        rw [hk]; rfl
      rw [hD]
      clear hD hx' hk
      have M := Lib.hid fun W hW hW2 => getBool_any A' (n - 1) (c - 1) B s W hW hW2 (by omega) (by omega)
      go_enter Try.func43, Try.ntmps43
      go_wp2
      go_quiet (fail)
      go_wp2_with fail
      refine (M.out _ (HR.out _ _) (by simp; omega)).mono ?_
      rcases hd : decB s with ke | ⟨v, r⟩
      · rintro e w1 ⟨hb1, rfl⟩
        have X1 := XO.out w1 _ hb1
        have y0 := X1.cell 0; have y1 := X1.cell 1; have y2 := X1.cell 2; have z0 := X1.frozen 0; have z1 := X1.frozen 1; have z2 := X1.frozen 2
        have Hd := Lib.hid hd; clear hd
        go_wp2
        exact bodyPost_ret (v := .tuple #[.agg #[.int .u8 0, .int .i64 0, .string ⟨#[]⟩], .slice none 0 0, .int .i64 ke]) (by simp [results, Try.results43, go_sem, y0, y1, y2]) rfl (by rw [Hd.out]; exact RetGet.bad_ (by have hz : Below w.heap.size w w1 := bto0 (bdr (ball (Below.refl _ _) _) _) hb1; repeat (first | exact hz | refine Below.setCell ?_ (show w.heap.size ≤ w.heap.size from Nat.le_refl _) _)) rfl)
      · rintro e w1 ⟨hb1, A3, n3, c3, rfl, hc3, hr3⟩
        have X1 := XO.out w1 _ hb1
        have y0 := X1.cell 0; have y1 := X1.cell 1; have y2 := X1.cell 2; have z0 := X1.frozen 0; have z1 := X1.frozen 1; have z2 := X1.frozen 2
        obtain ⟨vk, vi, vs⟩ := v
        have Hd := Lib.hid hd; clear hd
        go_wp2
        exact bodyPost_ret (v := .tuple #[.agg #[.int .u8 vk, .int .i64 vi, .string vs], .slice A3 n3 c3, .int .i64 0]) (by simp [results, Try.results43, go_sem, y0, y1, y2]) rfl (by rw [Hd.out]; exact RetGet.ok_ (by have hz : Below w.heap.size w w1 := bto0 (bdr (ball (Below.refl _ _) _) _) hb1; repeat (first | exact hz | refine Below.setCell ?_ (show w.heap.size ≤ w.heap.size from Nat.le_refl _) _)) (by repeat (first | exact hr3 | refine Reads.setCell ?_ (by exact hB) _)) hc3 rfl)
    · have hx' : (x.toNat : Int) = 3 := by omega
      rw [hx'] at d0
      have hD : decV (x :: s) = decT s := by
        show (if x.toNat = 0 then _ else _) = _
        rw [hk]; rfl
      rw [hD]
      clear hD hx' hk
      have M := Lib.hid fun W hW hW2 => getText_any A' (n - 1) (c - 1) B s W hW hW2 (by omega) (by omega)
      go_enter Try.func43, Try.ntmps43
      go_wp2
      go_quiet (fail)
      go_wp2_with fail
      refine (M.out _ (HR.out _ _) (by simp; omega)).mono ?_
      rcases hd : decT s with ke | ⟨v, r⟩
      · rintro e w1 ⟨hb1, rfl⟩
        have X1 := XO.out w1 _ hb1
        have y0 := X1.cell 0; have y1 := X1.cell 1; have y2 := X1.cell 2; have z0 := X1.frozen 0; have z1 := X1.frozen 1; have z2 := X1.frozen 2
        have Hd := Lib.hid hd; clear hd
        go_wp2
        exact bodyPost_ret (v := .tuple #[.agg #[.int .u8 0, .int .i64 0, .string ⟨#[]⟩], .slice none 0 0, .int .i64 ke]) (by simp [results, Try.results43, go_sem, y0, y1, y2]) rfl (by rw [Hd.out]; exact RetGet.bad_ (by have hz : Below w.heap.size w w1 := bto0 (bdr (ball (Below.refl _ _) _) _) hb1; repeat (first | exact hz | refine Below.setCell ?_ (show w.heap.size ≤ w.heap.size from Nat.le_refl _) _)) rfl)
      · rintro e w1 ⟨hb1, A3, n3, c3, rfl, hc3, hr3⟩
        have X1 := XO.out w1 _ hb1
        have y0 := X1.cell 0; have y1 := X1.cell 1; have y2 := X1.cell 2; have z0 := X1.frozen 0; have z1 := X1.frozen 1; have z2 := X1.frozen 2
        obtain ⟨vk, vi, vs⟩ := v
        have Hd := Lib.hid hd; clear hd
        go_wp2
        exact bodyPost_ret (v := .tuple #[.agg #[.int .u8 vk, .int .i64 vi, .string vs], .slice A3 n3 c3, .int .i64 0]) (by simp [results, Try.results43, go_sem, y0, y1, y2]) rfl (by rw [Hd.out]; exact RetGet.ok_ (by have hz : Below w.heap.size w w1 := bto0 (bdr (ball (Below.refl _ _) _) _) hb1; repeat (first | exact hz | refine Below.setCell ?_ (show w.heap.size ≤ w.heap.size from Nat.le_refl _) _)) (by repeat (first | exact hr3 | refine Reads.setCell ?_ (by exact hB) _)) hc3 rfl)
    · have hD : decV (x :: s) = .bad 6 := by
        show (if x.toNat = 0 then _ else _) = _
        rw [if_neg (by omega), if_neg (by omega), if_neg (by omega), if_neg (by omega)]
      rw [hD]
      have n0 : ((x.toNat : Int) == 0) = false := by simp; omega
      have n1 : ((x.toNat : Int) == 1) = false := by simp; omega
      have n2 : ((x.toNat : Int) == 2) = false := by simp; omega
      have n3 : ((x.toNat : Int) == 3) = false := by simp; omega
      have m0 : (x.toNat == 0) = false := by simp; omega
      have m1 : (x.toNat == 1) = false := by simp; omega
      have m2 : (x.toNat == 2) = false := by simp; omega
      have m3 : (x.toNat == 3) = false := by simp; omega
      clear hD hk
      go_enter Try.func43, Try.ntmps43
      go_wp2
      go_quiet (fail)
      go_wp2
      exact bodyPost_ret (v := .tuple #[.agg #[.int .u8 0, .int .i64 0, .string ⟨#[]⟩], .slice none 0 0, .int .i64 6]) (by simp [results, Try.results43, go_sem]) rfl (RetGet.bad_ (by have hz : Below w.heap.size w w := Below.refl _ _; repeat (first | exact hz | refine Below.setCell ?_ (show w.heap.size ≤ w.heap.size from Nat.le_refl _) _ | refine bdr ?_ _ | refine ball ?_ _)) rfl)
    · have hx' : (x.toNat : Int) = 0 := by omega
      rw [hx'] at d0
      have hD : decV (x :: s) = .ok ⟨0, 0, ⟨#[]⟩⟩ s := by
        show (if x.toNat = 0 then _ else _) = _
        rw [if_pos hk]
      rw [hD]
      clear hD hx' hk
      go_enter Try.func43, Try.ntmps43
      go_wp2
      go_quiet (fail)
      go_wp2
      exact bodyPost_ret (v := .tuple #[.agg #[.int .u8 0, .int .i64 0, .string ⟨#[]⟩], .slice A' (n - 1) (c - 1), .int .i64 0]) (by simp [results, Try.results43, go_sem]) rfl (RetGet.ok_ (by have hz : Below w.heap.size w w := Below.refl _ _; repeat (first | exact hz | refine Below.setCell ?_ (show w.heap.size ≤ w.heap.size from Nat.le_refl _) _ | refine bdr ?_ _ | refine ball ?_ _)) (by repeat (first | exact HR.out _ _ | refine Reads.setCell ?_ (by exact hB) _)) (Nat.sub_le_sub_right hc 1) rfl)
end Go.Proofs.Ytcpbkaeilmabaab
