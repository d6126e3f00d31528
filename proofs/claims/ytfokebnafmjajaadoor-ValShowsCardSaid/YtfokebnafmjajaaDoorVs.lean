/-
  The laws ValShows and ValReads: their walks.
-/
import Derived.Test.YtfokebnafmjajaaDoorVq
import Derived.Test.YtfokebnafmjajaaDoorVc
import Derived.Test.YtfokebnafmjajaaDoorVe
namespace Go.Proofs.YtfokebnafmjajaaDoor
open Go.RowKit

theorem show_size (v : Vl) (hi0 : -9223372036854775808 ≤ v.i) (hi1 : v.i ≤ 9223372036854775807) (hs : v.s.size ≤ 4999) : (showV v).size ≤ 10000 := by
  rw [← len_size, show_list]
  unfold showL
  split
  · have := Lib.itoa_length_le v.i hi0 hi1; omega
  · split
    · split <;> decide
    · split
      · have := dblL_len v.s.data.toList
        have := len_size v.s
        simp only [List.length_cons, List.length_append, List.length_nil]
        omega
      · decide
theorem read_show (v : Vl) (hi0 : -9223372036854775808 ≤ v.i) (hi1 : v.i ≤ 9223372036854775807) (hm : mayV v = true) : readL (showV v).data.toList = (v, true) := by
  rw [show_list, read_eq _ (guess_bd _), rread_show hi0 hi1 hm]
theorem great_one (v : Vl) (h : grV 0 [v] = false) : v.s.size ≤ 4999 := by
  unfold grV at h
  split at h
  · cases h
  · omega

set_option maxHeartbeats 4000000 in
theorem valShows_any (v : Vl) (hok : v.ok) (w : World) (hv : VO w) :
    Calls Tryd.prog 5 #[v.agg] w (RetB w (.bool true)) := by
  have Hgr := fun (W : World) (B : Nat) (h : Reads W B 3 (some ⟨w.heap.size + 1, 0, none⟩) 1 (vV [v])) => great_any (some ⟨w.heap.size + 1, 0, none⟩) 1 1 [v] W B h (by intro u hu; rw [List.mem_singleton] at hu; subst hu; exact hok.2.2) (by decide)
  have HVx := Lib.hid fun (W : World) (hb : Below w.heap.size w W) => hv.below0 hb
  by_cases hg : grV 0 [v] = true
  · rw [hg] at Hgr
    obtain ⟨k, i, s⟩ := v
    unfold Vl.agg
    simp only
    have HG := Lib.hid Hgr; clear Hgr
    clear hg hok hv
    go_enter Tryd.func5, Tryd.ntmps5
    go_wp2_with fail
    refine (HG.out _ _ (reads_at _ #[.int .u8 k, .int .i64 i, .string s] _ (by simp) rfl rfl)).mono ?_
    rintro e w1 ⟨rfl, rfl⟩
    go_wp2_with fail
    refine (fixed1_any _ (HVx.out _ (by (with_reducible repeat (first | exact Below.refl _ _ | exact hb1 | exact hb1 | refine bto0 ?_ hb1 | refine bto0 ?_ hb1 | refine bdr ?_ _ | refine Below.drew ?_ | refine ball ?_ _)))).m).mono ?_
    rintro e w2 ⟨rfl, hb2⟩
    go_wp2
    go_ret
    exact ⟨rfl, by (with_reducible repeat (first | exact Below.refl _ _ | exact hb2 | refine bto0 ?_ hb2 | refine bdr ?_ _ | refine Below.drew ?_ | refine ball ?_ _))⟩
  · have hg' : grV 0 [v] = false := by simpa using hg
    have hsz := great_one v hg'
    rw [hg'] at Hgr
    obtain ⟨_, ⟨hi0, hi1⟩, _⟩ := id hok
    have hsh := show_size v hi0 hi1 hsz
    have S1 := fun W h => show_any v W h hi0 hi1 (by omega)
    have S2 := fun W => rshow_any v W hi0 hi1 (by omega)
    have M1 := fun W => rmay_any v hok W
    have R1 := fun W h => read_any (showV v) W h hsh
    have hrd := read_show v hi0 hi1
    obtain ⟨t, ht⟩ : ∃ t, showV v = t := ⟨_, rfl⟩
    rw [ht] at S1 S2 R1 hrd
    obtain ⟨y, hy⟩ : ∃ y, mayV v = y := ⟨_, rfl⟩
    rw [hy] at M1 hrd
    obtain ⟨r, hr⟩ : ∃ r, readL t.data.toList = r := ⟨_, rfl⟩
    rw [hr] at R1 hrd
    obtain ⟨⟨xk, xi, xs⟩, b⟩ := r
    unfold tupV Vl.agg at R1
    have hcs : y = false ∨ (y = true ∧ (⟨xk, xi, xs⟩ : Vl) = v ∧ b = true) := by
      cases y
      · exact .inl rfl
      · have := hrd rfl
        exact .inr ⟨rfl, congrArg Prod.fst this, congrArg Prod.snd this⟩
    obtain ⟨k, i, s⟩ := v
    unfold Vl.agg at *
    simp only at *
    have HG := Lib.hid Hgr; clear Hgr
    have HS1 := Lib.hid S1; clear S1
    have HS2 := Lib.hid S2; clear S2
    have HM1 := Lib.hid M1; clear M1
    have HR1 := Lib.hid R1; clear R1
    clear hg hg' hok hv hi0 hi1 hsh hrd hr hy ht hsz
    have hne : (t.toList == t.toList) = true := by simp
    rcases hcs with rfl | ⟨rfl, hv2, rfl⟩
    rotate_left
    · injection hv2 with q1 q2 q3
      subst q1; subst q2; subst q3
      go_enter Tryd.func5, Tryd.ntmps5
      go_wp2_with fail
      refine (HG.out _ _ (reads_at _ #[.int .u8 xk, .int .i64 xi, .string xs] _ (by simp) rfl rfl)).mono ?_
      rintro e w1 ⟨rfl, rfl⟩
      go_wp2_with fail
      refine (HS1.out _ (HVx.out _ (by (with_reducible repeat (first | exact Below.refl _ _ | exact hb1 | exact hb1 | refine bto0 ?_ hb1 | refine bto0 ?_ hb1 | refine bdr ?_ _ | refine Below.drew ?_ | refine ball ?_ _))))).mono ?_
      rintro e w1 ⟨rfl, hb1⟩
      have P1 := Lib.hid (((At3.new w xk xi xs 23).alloc _).below hb1 (by simp; omega))
      obtain ⟨c0, c1, c2, -, -, -⟩ := P1.out
      go_wp2_with fail
      refine (HR1.out _ (HVx.out _ (by (with_reducible repeat (first | exact Below.refl _ _ | exact hb1 | refine bto0 ?_ hb1 | refine bdr ?_ _ | refine Below.drew ?_ | refine ball ?_ _))))).mono ?_
      rintro e w2 ⟨rfl, hb2⟩
      clear c0 c1 c2
      have P2 := Lib.hid (P1.out.below0 hb2)
      obtain ⟨c0, c1, c2, -, -, -⟩ := P2.out
      go_wp2_with fail
      refine (fixed1_any _ (HVx.out _ (by (with_reducible repeat (first | exact Below.refl _ _ | exact hb2 | exact hb1 | refine bto0 ?_ hb2 | refine bto0 ?_ hb1 | refine bdr ?_ _ | refine Below.drew ?_ | refine ball ?_ _)))).m).mono ?_
      rintro e w3 ⟨rfl, hb3⟩
      clear c0 c1 c2
      have P3 := Lib.hid ((P2.out.alloc _).below0 hb3)
      obtain ⟨c0, c1, c2, -, -, -⟩ := P3.out
      have Q3 := Lib.hid ((At3.new w2 xk xi xs 23).below0 hb3)
      go_wp2_with fail
      refine (HS2.out _).mono ?_
      rintro e w4 ⟨rfl, hb4⟩
      clear c0 c1 c2
      have P4 := Lib.hid (P3.out.below0 hb4)
      have Q4 := Lib.hid (Q3.out.below0 hb4)
      obtain ⟨c0, c1, c2, -, -, -⟩ := P4.out
      obtain ⟨d0, d1, d2, -, -, -⟩ := Q4.out
      go_wp2_with fail
      refine (HM1.out _).mono ?_
      rintro e w5 ⟨rfl, hb5⟩
      clear c0 c1 c2 d0 d1 d2
      have P5 := Lib.hid (P4.out.below0 hb5)
      have Q5 := Lib.hid (Q4.out.below0 hb5)
      obtain ⟨c0, c1, c2, -, -, -⟩ := P5.out
      obtain ⟨d0, d1, d2, -, -, -⟩ := Q5.out
      go_wp2
      go_ret
      exact ⟨ret_bool (by simp), by (with_reducible repeat (first | exact Below.refl _ _ | exact hb5 | exact hb4 | exact hb3 | exact hb2 | exact hb1 | refine bto0 ?_ hb5 | refine bto0 ?_ hb4 | refine bto0 ?_ hb3 | refine bto0 ?_ hb2 | refine bto0 ?_ hb1 | refine bdr ?_ _ | refine Below.drew ?_ | refine ball ?_ _))⟩
    · clear hne
      have hne : (t.toList == t.toList) = true := by simp
      go_enter Tryd.func5, Tryd.ntmps5
      go_wp2_with fail
      refine (HG.out _ _ (reads_at _ #[.int .u8 k, .int .i64 i, .string s] _ (by simp) rfl rfl)).mono ?_
      rintro e w1 ⟨rfl, rfl⟩
      go_wp2_with fail
      refine (HS1.out _ (HVx.out _ (by (with_reducible repeat (first | exact Below.refl _ _ | exact hb1 | exact hb1 | refine bto0 ?_ hb1 | refine bto0 ?_ hb1 | refine bdr ?_ _ | refine Below.drew ?_ | refine ball ?_ _))))).mono ?_
      rintro e w1 ⟨rfl, hb1⟩
      have P1 := Lib.hid (((At3.new w k i s 23).alloc _).below hb1 (by simp; omega))
      obtain ⟨c0, c1, c2, -, -, -⟩ := P1.out
      go_wp2_with fail
      refine (HR1.out _ (HVx.out _ (by (with_reducible repeat (first | exact Below.refl _ _ | exact hb1 | refine bto0 ?_ hb1 | refine bdr ?_ _ | refine Below.drew ?_ | refine ball ?_ _))))).mono ?_
      rintro e w2 ⟨rfl, hb2⟩
      clear c0 c1 c2
      have P2 := Lib.hid (P1.out.below0 hb2)
      obtain ⟨c0, c1, c2, -, -, -⟩ := P2.out
      go_wp2_with fail
      refine (fixed1_any _ (HVx.out _ (by (with_reducible repeat (first | exact Below.refl _ _ | exact hb2 | exact hb1 | refine bto0 ?_ hb2 | refine bto0 ?_ hb1 | refine bdr ?_ _ | refine Below.drew ?_ | refine ball ?_ _)))).m).mono ?_
      rintro e w3 ⟨rfl, hb3⟩
      clear c0 c1 c2
      have P3 := Lib.hid ((P2.out.alloc _).below0 hb3)
      obtain ⟨c0, c1, c2, -, -, -⟩ := P3.out
      have Q3 := Lib.hid ((At3.new w2 xk xi xs 23).below0 hb3)
      go_wp2_with fail
      refine (HS2.out _).mono ?_
      rintro e w4 ⟨rfl, hb4⟩
      clear c0 c1 c2
      have P4 := Lib.hid (P3.out.below0 hb4)
      have Q4 := Lib.hid (Q3.out.below0 hb4)
      obtain ⟨c0, c1, c2, -, -, -⟩ := P4.out
      obtain ⟨d0, d1, d2, -, -, -⟩ := Q4.out
      go_wp2_with fail
      refine (HM1.out _).mono ?_
      rintro e w5 ⟨rfl, hb5⟩
      clear c0 c1 c2 d0 d1 d2
      have P5 := Lib.hid (P4.out.below0 hb5)
      have Q5 := Lib.hid (Q4.out.below0 hb5)
      obtain ⟨c0, c1, c2, -, -, -⟩ := P5.out
      obtain ⟨d0, d1, d2, -, -, -⟩ := Q5.out
      go_wp2
      go_ret
      exact ⟨ret_bool (by simp), by (with_reducible repeat (first | exact Below.refl _ _ | exact hb5 | exact hb4 | exact hb3 | exact hb2 | exact hb1 | refine bto0 ?_ hb5 | refine bto0 ?_ hb4 | refine bto0 ?_ hb3 | refine bto0 ?_ hb2 | refine bto0 ?_ hb1 | refine bdr ?_ _ | refine Below.drew ?_ | refine ball ?_ _))⟩

set_option maxHeartbeats 4000000 in
theorem valReads_any (s : ByteArray) (w : World) (hv : VO w) :
    Calls Tryd.prog 6 #[.string s] w (RetB w (.bool true)) := by
  have HVx := Lib.hid fun (W : World) (hb : Below w.heap.size w W) => hv.below0 hb
  by_cases hl : 3000 < s.size
  · have hl' : (3000 : Int) < (s.size : Int) := by omega
    clear hl hv
    go_enter Tryd.func6, Tryd.ntmps6
    go_wp2_with fail
    refine (fixed1_any _ (HVx.out _ (Below.refl _ _)).m).mono ?_
    rintro e w2 ⟨rfl, hb2⟩
    go_wp2
    go_ret
    exact ⟨rfl, by (with_reducible repeat (first | exact Below.refl _ _ | exact hb2 | refine bto0 ?_ hb2 | refine bdr ?_ _ | refine Below.drew ?_ | refine ball ?_ _))⟩
  · have hl' : (s.size : Int) ≤ 3000 := by omega
    have R1 := fun W h => read_any s W h (by omega)
    have R2 := fun W => rread_any s W (by omega)
    have hgb := guess_bd s.data.toList
    rw [← read_eq _ hgb] at R2
    have hgo := guess_ok s (by omega) hgb
    have hcs : readL s.data.toList = (vZero, false) ∨ ∃ x : Vl, readL s.data.toList = (x, true) ∧ x.ok ∧ x.s.size ≤ 10000 ∧ mayV x = true ∧ (showV x).toList = s.toList := by
      unfold readL
      by_cases h : mayV (guessL s.data.toList) = true ∧ showL (guessL s.data.toList) = s.data.toList
      · rw [if_pos h]
        exact .inr ⟨_, rfl, hgo.1, hgo.2, h.1, by rw [ByteArray.toList_eq, ByteArray.toList_eq, show_list]; exact h.2⟩
      · rw [if_neg h]
        exact .inl rfl
    clear hgb hgo hl
    rcases hcs with hr | ⟨x, hr, hok, hsz, hm, hst⟩
    · rw [hr] at R1 R2
      unfold tupV Vl.agg vZero at R1 R2
      simp only at R1 R2
      have HR1 := Lib.hid R1; clear R1
      have HR2 := Lib.hid R2; clear R2
      clear hr hv
      go_enter Tryd.func6, Tryd.ntmps6
      go_wp2_with fail
      refine (HR1.out _ (HVx.out _ (Below.refl _ _))).mono ?_
      rintro e w1 ⟨rfl, hb1⟩
      go_wp2_with fail
      refine (HR2.out _).mono ?_
      rintro e w2 ⟨rfl, hb2⟩
      have P2 := Lib.hid ((At3.new w1 0 0 ⟨#[]⟩ 23).below0 hb2)
      go_wp2_with fail
      refine (fixed1_any _ (HVx.out _ (by (with_reducible repeat (first | exact Below.refl _ _ | exact hb2 | exact hb1 | refine bto0 ?_ hb2 | refine bto0 ?_ hb1 | refine bdr ?_ _ | refine Below.drew ?_ | refine ball ?_ _)))).m).mono ?_
      rintro e w3 ⟨rfl, hb3⟩
      obtain ⟨c0, c1, c2, -, -, -⟩ := (P2.out.alloc _).below0 hb3
      obtain ⟨d0, d1, d2, -, -, -⟩ := (At3.new w2 0 0 ⟨#[]⟩ 23).below0 hb3
      go_wp2
      go_ret
      exact ⟨ret_bool (by simp), by (with_reducible repeat (first | exact Below.refl _ _ | exact hb3 | exact hb2 | exact hb1 | refine bto0 ?_ hb3 | refine bto0 ?_ hb2 | refine bto0 ?_ hb1 | refine bdr ?_ _ | refine Below.drew ?_ | refine ball ?_ _))⟩
    · rw [hr] at R1 R2
      obtain ⟨_, ⟨hi0, hi1⟩, _⟩ := id hok
      have S1 := fun W h => show_any x W h hi0 hi1 hsz
      have M1 := fun W => may_any x hok W
      rw [hm] at M1
      obtain ⟨t, ht⟩ : ∃ t, showV x = t := ⟨_, rfl⟩
      rw [ht] at S1 hst
      obtain ⟨k, i, u⟩ := x
      unfold tupV Vl.agg at R1 R2
      unfold Vl.agg at S1 M1
      simp only at R1 R2 S1 M1
      have HR1 := Lib.hid R1; clear R1
      have HR2 := Lib.hid R2; clear R2
      have HS1 := Lib.hid S1; clear S1
      have HM1 := Lib.hid M1; clear M1
      have hbq : (t.toList == s.toList) = true := by rw [hst]; simp
      clear hr hv hok hi0 hi1 hsz hm ht hst
      go_enter Tryd.func6, Tryd.ntmps6
      go_wp2_with fail
      refine (HR1.out _ (HVx.out _ (Below.refl _ _))).mono ?_
      rintro e w1 ⟨rfl, hb1⟩
      go_wp2_with fail
      refine (HR2.out _).mono ?_
      rintro e w2 ⟨rfl, hb2⟩
      have P2 := Lib.hid ((At3.new w1 k i u 23).below0 hb2)
      go_wp2_with fail
      refine (fixed1_any _ (HVx.out _ (by (with_reducible repeat (first | exact Below.refl _ _ | exact hb2 | exact hb1 | refine bto0 ?_ hb2 | refine bto0 ?_ hb1 | refine bdr ?_ _ | refine Below.drew ?_ | refine ball ?_ _)))).m).mono ?_
      rintro e w3 ⟨rfl, hb3⟩
      have P3 := Lib.hid ((P2.out.alloc (.cells #[.int .u8 k, .int .i64 i, .string u] 23)).below0 hb3)
      have Q3 := Lib.hid ((At3.new w2 k i u 23).below0 hb3)
      obtain ⟨c0, c1, c2, -, -, -⟩ := P3.out
      obtain ⟨d0, d1, d2, -, -, -⟩ := Q3.out
      go_wp2_with fail
      refine (HS1.out _ (HVx.out _ (by (with_reducible repeat (first | exact Below.refl _ _ | exact hb3 | exact hb2 | exact hb1 | refine bto0 ?_ hb3 | refine bto0 ?_ hb2 | refine bto0 ?_ hb1 | refine bdr ?_ _ | refine Below.drew ?_ | refine ball ?_ _))))).mono ?_
      rintro e w4 ⟨rfl, hb4⟩
      clear c0 c1 c2 d0 d1 d2
      have P4 := Lib.hid (P3.out.below0 hb4)
      obtain ⟨c0, c1, c2, -, -, -⟩ := P4.out
      go_wp2_with fail
      refine (HM1.out _).mono ?_
      rintro e w5 ⟨rfl, hb5⟩
      go_wp2
      go_ret
      exact ⟨ret_bool (by simp), by (with_reducible repeat (first | exact Below.refl _ _ | exact hb5 | exact hb4 | exact hb3 | exact hb2 | exact hb1 | refine bto0 ?_ hb5 | refine bto0 ?_ hb4 | refine bto0 ?_ hb3 | refine bto0 ?_ hb2 | refine bto0 ?_ hb1 | refine bdr ?_ _ | refine Below.drew ?_ | refine ball ?_ _))⟩
end Go.Proofs.YtfokebnafmjajaaDoor
