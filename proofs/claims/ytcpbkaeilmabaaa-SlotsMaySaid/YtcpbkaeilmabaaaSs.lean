/-
  Slots of a heap page: the law's example.
-/
import Derived.Test.YtcpbkaeilmabaaaSr
namespace Go.Proofs.Ytcpbkaeilmabaaa
open Go.RowKit

theorem lay_pE {next : Nat} {rs : List (List UInt8)} (h : Fits rs) : pE (layL next rs) = 512 - tot rs := by
  unfold pE
  rw [lay_C h, lay_end h rs.length (Nat.le_refl _), List.take_length]; rfl
theorem lay_room {next : Nat} {rs : List (List UInt8)} (h : Fits rs) : pRoom (layL next rs) = 508 - (8 + 4 * rs.length + tot rs) := by
  unfold pRoom
  rw [lay_page h, if_pos rfl, lay_pE h, lay_C h]; omega
theorem lay_count {next : Nat} {rs : List (List UInt8)} (h : Fits rs) : pC (layL next rs) = rs.length := by
  unfold pC
  rw [lay_page h, if_pos rfl, lay_C h]
theorem lay_recs {next : Nat} {rs : List (List UInt8)} (h : Fits rs) : recs (layL next rs) = rs := by
  apply List.ext_getElem?
  intro i
  by_cases hi : i < rs.length
  · rw [recs_at _ (by rw [lay_C h]; exact hi), List.getElem?_eq_getElem hi, lay_rec h (List.getElem?_eq_getElem hi)]
  · rw [List.getElem?_eq_none (by rw [recs_len, lay_C h]; omega), List.getElem?_eq_none (by omega)]
theorem fits_one : Fits [zs 10] := ⟨by decide, by intro r hr; rw [List.mem_singleton] at hr; subst hr; decide⟩
set_option maxRecDepth 100000 in
theorem sfixed_any (w : World) : Calls Try.prog 47 #[] w (RetB w (.bool true)) := by
  have mk0 := mk_zs 10 (by omega) .i64
  rw [show ((10 : Nat) : Int) = 10 from rfl] at mk0
  have NW := Lib.hid (snew_any 0 (by omega) w)
  rw [show ((0 : Nat) : Int) = 0 from rfl] at NW
  go_enter Try.func47, Try.ntmps47
  go_wp2_with fail
  refine NW.out.mono ?_
  rintro e w1 ⟨A, c, rfl, own1, hc, hb1⟩
  have hrz : Reads (w1.alloc (.cells (bV (zs 10)) 5)) (w1.heap.size + 1) 1 (some ⟨w1.heap.size, 0, none⟩) 10 (bL (zs 10)) := reads_new _ _ _ (bV_toList _).symm (by rw [bL_len]; rfl)
  have AD := Lib.hid (add_ok (n := 512) (c := c) (n2 := 10) (c2 := 10) (A2 := some ⟨w1.heap.size, 0, none⟩) (lay_page Fits.nil) ((own1.alloc (.cells (bV (zs 10)) 5)).reads.1) (Nat.le_refl _) (by omega) hc hrz (by simp) (by omega) (by rw [lay_pE Fits.nil, lay_C Fits.nil]; decide))
  rw [lay_C Fits.nil, lay_pE Fits.nil, lay_add (rs := []) 0 (zs 10) (by decide)] at AD
  have RM := Lib.hid fun W (hW : Below w1.heap.size w1 W) => Room_any (n := 512) (c := c) (own1.below hW).reads.1 (Nat.le_refl _) (by omega) hc
  rw [lay_room Fits.nil] at RM
  have hbz := ball hb1 (.cells (bV (zs 10)) 5)
  have hb1z := ball (Below.refl w1.heap.size w1) (.cells (bV (zs 10)) 5)
  obtain ⟨az, haz⟩ : ∃ az, bV (zs 10) = az := ⟨_, rfl⟩
  rw [haz] at mk0 AD hbz hb1z
  clear own1 hb1 hrz haz
  go_wp2_with fail
  refine AD.out.mono ?_
  rintro e w2 ⟨A2, c2, rfl, own2, hc2, hb2⟩
  have RM2 := Lib.hid fun W (hW : Below w2.heap.size w2 W) => Room_any (n := 512) (c := c2) (own2.below hW).reads.1 (Nat.le_refl _) (by omega) hc2
  rw [List.nil_append, lay_room fits_one] at RM2
  have hb02 := bto0 hbz hb2
  have hb12 := bto0 hb1z hb2
  clear own2 hb2 hbz hb1z
  go_wp2_with fail
  refine (RM.out _ hb12).mono ?_
  rintro e w3 ⟨rfl, hb3⟩
  go_wp2_with fail
  refine (RM2.out _ hb3).mono ?_
  rintro e w4 ⟨rfl, hb4⟩
  go_wp2
  go_ret
  exact ⟨rfl, bto0 (bto0 hb02 hb3) hb4⟩
end Go.Proofs.Ytcpbkaeilmabaaa
