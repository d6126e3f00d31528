/-
  Keys as rows: contracts of the program's get and Get.
-/
import Derived.Test.YtohaplmbgipbcaaDoorKi
import Derived.Deep.QuietTactic
import Derived.BigQuiet
set_option linter.unusedSimpArgs false
namespace Go.Proofs.YtohaplmbgipbcaaDoor
open Go.RowKit

theorem At3.drewN_ {w : World} {b : Nat} {k i : Int} {s : ByteArray} (h : At3 w b k i s) (n : Nat) : At3 (w.drewN n) b k i s := h
set_option maxHeartbeats 2000000 in
theorem get_any (s : ByteArray) (w : World) (hs : s.size ≤ 100000) (h0 : 0 < s.size) : Calls Tryd.prog 26 #[.string s] w (RetG w (kdV s.data.toList)) := by
  have hhd := head_at s h0
  have hd := ext_drop s 1
  obtain ⟨T, hT⟩ : ∃ T, s.extract 1 s.size = T := ⟨_, rfl⟩
  rw [hT] at hd
  have hTl : T.data.toList = s.data.toList.drop 1 := by rw [hd]; simp [str]
  have hTz : T.size ≤ 100000 := by rw [← szl T, hTl, List.length_drop, szl]; omega
  rw [hhd, ← hTl]
  have hstr : str T.data.toList = T := str_of T
  have g1 : (0 : Int) < (s.size : Int) := by omega
  have g2 : (1 : Int) ≤ (s.size : Int) := by omega
  have g3 : 1 ≤ s.size := by omega
  have I := fun W => getInt_any T W hTz
  have Bo := fun W => getBool_any T W hTz
  have Te := fun W => getText_any T W hTz
  rw [kdV]
  clear hd hhd hTl hTz
  obtain ⟨l, hl⟩ : ∃ l, T.data.toList = l := ⟨_, rfl⟩
  rw [hl] at hstr I Bo Te ⊢
  clear hl
  have HST := Lib.hid hstr; clear hstr
  have HI := Lib.hid I; clear I
  have HB := Lib.hid Bo; clear Bo
  have HT := Lib.hid Te; clear Te
  have xb : (s[0].toNat : Int) ≤ 255 := by have := s[0].toNat_lt; omega
  by_cases h1 : s[0].toNat = 1
  · rw [if_pos h1]
    have e1 : ((s[0].toNat : Int) == 1) = true := by rw [beq_iff_eq]; omega
    clear h1
    go_enter Tryd.func26, Tryd.ntmps26
    go_wp2
    go_quiet (fail)
    go_wp2
    exact bodyPost_ret (v := .tuple #[.agg #[.int .u8 0, .int .i64 0, .string ⟨#[]⟩], .string T, .int .i64 0]) (by simp [results, Tryd.results26, go_sem]) rfl (RetG.ok_ (by repeat (first | exact ball (Below.refl _ _) _ | refine bdr ?_ _ | refine Below.setCell ?_ (by simp) _)) (by rw [HST.out]))
  · rw [if_neg h1]
    have e1 : ((s[0].toNat : Int) == 1) = false := beq_eq_false_iff_ne.2 (by omega)
    by_cases h2 : s[0].toNat = 2
    · rw [if_pos h2]
      have e2 : ((s[0].toNat : Int) == 2) = true := by rw [beq_iff_eq]; omega
      obtain ⟨D, hD⟩ : ∃ D, kdI l = D := ⟨_, rfl⟩
      rw [hD] at HI ⊢
      clear hD h1 h2
      cases D with
      | bad e =>
        go_enter Tryd.func26, Tryd.ntmps26
        go_wp2
        go_quiet (fail)
        go_wp2_with fail
        refine (HI.out _).mono ?_
        rintro x w1 ⟨hb1, rfl⟩
        have hz1 : w.heap.size < w1.heap.size := by have := hb1.size; simp at this; omega
        obtain ⟨c0, c1, c2, f0, f1, f2⟩ := ((At3.new w 0 0 ⟨#[]⟩ 43).drewN_ _).below hb1 (by simp)
        go_wp2
        exact bodyPost_ret (v := .tuple #[.agg #[.int .u8 0, .int .i64 0, .string ⟨#[]⟩], .string ⟨#[]⟩, .int .i64 e]) (by simp [results, Tryd.results26, go_sem, c0, c1, c2]) rfl (RetG.bad_ (by repeat (first | exact bto0 (bdr (ball (Below.refl _ _) _) _) hb1 | refine Below.setCell ?_ (by simp) _)) rfl)
      | ok v r =>
        obtain ⟨vk, vi, vs⟩ := v
        obtain ⟨R, hR⟩ : ∃ R, str r = R := ⟨_, rfl⟩
        have HHR := Lib.hid hR
        have H2 : Hid (∀ W, Calls Tryd.prog 30 #[.string T] W fun e w' => Below W.heap.size W w' ∧ e = .returned (.tuple #[.agg #[.int .u8 vk, .int .i64 vi, .string vs], .string R, .int .i64 0])) := Lib.hid fun W => (HI.out W).mono fun e w' h => by obtain ⟨h1, h2⟩ := h; exact ⟨h1, by rw [← hR]; exact h2⟩
        clear HI hR
        go_enter Tryd.func26, Tryd.ntmps26
        go_wp2
        go_quiet (fail)
        go_wp2_with fail
        refine (H2.out _).mono ?_
        rintro x w1 ⟨hb1, rfl⟩
        have hz1 : w.heap.size < w1.heap.size := by have := hb1.size; simp at this; omega
        obtain ⟨c0, c1, c2, f0, f1, f2⟩ := ((At3.new w 0 0 ⟨#[]⟩ 43).drewN_ _).below hb1 (by simp)
        go_wp2
        exact bodyPost_ret (v := .tuple #[.agg #[.int .u8 vk, .int .i64 vi, .string vs], .string R, .int .i64 0]) (by simp [results, Tryd.results26, go_sem, c0, c1, c2]) rfl (RetG.ok_ (by repeat (first | exact bto0 (bdr (ball (Below.refl _ _) _) _) hb1 | refine Below.setCell ?_ (by simp) _)) (by rw [HHR.out]))
    · rw [if_neg h2]
      have e2 : ((s[0].toNat : Int) == 2) = false := beq_eq_false_iff_ne.2 (by omega)
      by_cases h3 : s[0].toNat = 3
      · rw [if_pos h3]
        have e3 : ((s[0].toNat : Int) == 3) = true := by rw [beq_iff_eq]; omega
        obtain ⟨D, hD⟩ : ∃ D, kdB l = D := ⟨_, rfl⟩
        rw [hD] at HB ⊢
        clear hD h1 h2 h3
        cases D with
        | bad e =>
          go_enter Tryd.func26, Tryd.ntmps26
          go_wp2
          go_quiet (fail)
          go_wp2_with fail
          refine (HB.out _).mono ?_
          rintro x w1 ⟨hb1, rfl⟩
          have hz1 : w.heap.size < w1.heap.size := by have := hb1.size; simp at this; omega
          obtain ⟨c0, c1, c2, f0, f1, f2⟩ := ((At3.new w 0 0 ⟨#[]⟩ 43).drewN_ _).below hb1 (by simp)
          go_wp2
          exact bodyPost_ret (v := .tuple #[.agg #[.int .u8 0, .int .i64 0, .string ⟨#[]⟩], .string ⟨#[]⟩, .int .i64 e]) (by simp [results, Tryd.results26, go_sem, c0, c1, c2]) rfl (RetG.bad_ (by repeat (first | exact bto0 (bdr (ball (Below.refl _ _) _) _) hb1 | refine Below.setCell ?_ (by simp) _)) rfl)
        | ok v r =>
          obtain ⟨vk, vi, vs⟩ := v
          obtain ⟨R, hR⟩ : ∃ R, str r = R := ⟨_, rfl⟩
          have HHR := Lib.hid hR
          have H2 : Hid (∀ W, Calls Tryd.prog 31 #[.string T] W fun e w' => Below W.heap.size W w' ∧ e = .returned (.tuple #[.agg #[.int .u8 vk, .int .i64 vi, .string vs], .string R, .int .i64 0])) := Lib.hid fun W => (HB.out W).mono fun e w' h => by obtain ⟨h1, h2⟩ := h; exact ⟨h1, by rw [← hR]; exact h2⟩
          clear HB hR
          go_enter Tryd.func26, Tryd.ntmps26
          go_wp2
          go_quiet (fail)
          go_wp2_with fail
          refine (H2.out _).mono ?_
          rintro x w1 ⟨hb1, rfl⟩
          have hz1 : w.heap.size < w1.heap.size := by have := hb1.size; simp at this; omega
          obtain ⟨c0, c1, c2, f0, f1, f2⟩ := ((At3.new w 0 0 ⟨#[]⟩ 43).drewN_ _).below hb1 (by simp)
          go_wp2
          exact bodyPost_ret (v := .tuple #[.agg #[.int .u8 vk, .int .i64 vi, .string vs], .string R, .int .i64 0]) (by simp [results, Tryd.results26, go_sem, c0, c1, c2]) rfl (RetG.ok_ (by repeat (first | exact bto0 (bdr (ball (Below.refl _ _) _) _) hb1 | refine Below.setCell ?_ (by simp) _)) (by rw [HHR.out]))

      · rw [if_neg h3]
        have e3 : ((s[0].toNat : Int) == 3) = false := beq_eq_false_iff_ne.2 (by omega)
        by_cases h4 : s[0].toNat = 4
        · rw [if_pos h4]
          have e4 : ((s[0].toNat : Int) == 4) = true := by rw [beq_iff_eq]; omega
          obtain ⟨D, hD⟩ : ∃ D, kdT l = D := ⟨_, rfl⟩
          rw [hD] at HT ⊢
          clear hD h1 h2 h3 h4
          cases D with
          | bad e =>
            go_enter Tryd.func26, Tryd.ntmps26
            go_wp2
            go_quiet (fail)
            go_wp2_with fail
            refine (HT.out _).mono ?_
            rintro x w1 ⟨hb1, rfl⟩
            have hz1 : w.heap.size < w1.heap.size := by have := hb1.size; simp at this; omega
            obtain ⟨c0, c1, c2, f0, f1, f2⟩ := ((At3.new w 0 0 ⟨#[]⟩ 43).drewN_ _).below hb1 (by simp)
            go_wp2
            exact bodyPost_ret (v := .tuple #[.agg #[.int .u8 0, .int .i64 0, .string ⟨#[]⟩], .string ⟨#[]⟩, .int .i64 e]) (by simp [results, Tryd.results26, go_sem, c0, c1, c2]) rfl (RetG.bad_ (by repeat (first | exact bto0 (bdr (ball (Below.refl _ _) _) _) hb1 | refine Below.setCell ?_ (by simp) _)) rfl)
          | ok v r =>
            obtain ⟨vk, vi, vs⟩ := v
            obtain ⟨R, hR⟩ : ∃ R, str r = R := ⟨_, rfl⟩
            have HHR := Lib.hid hR
            have H2 : Hid (∀ W, Calls Tryd.prog 32 #[.string T] W fun e w' => Below W.heap.size W w' ∧ e = .returned (.tuple #[.agg #[.int .u8 vk, .int .i64 vi, .string vs], .string R, .int .i64 0])) := Lib.hid fun W => (HT.out W).mono fun e w' h => by obtain ⟨h1, h2⟩ := h; exact ⟨h1, by rw [← hR]; exact h2⟩
            clear HT hR
            go_enter Tryd.func26, Tryd.ntmps26
            go_wp2
            go_quiet (fail)
            go_wp2_with fail
            refine (H2.out _).mono ?_
            rintro x w1 ⟨hb1, rfl⟩
            have hz1 : w.heap.size < w1.heap.size := by have := hb1.size; simp at this; omega
            obtain ⟨c0, c1, c2, f0, f1, f2⟩ := ((At3.new w 0 0 ⟨#[]⟩ 43).drewN_ _).below hb1 (by simp)
            go_wp2
            exact bodyPost_ret (v := .tuple #[.agg #[.int .u8 vk, .int .i64 vi, .string vs], .string R, .int .i64 0]) (by simp [results, Tryd.results26, go_sem, c0, c1, c2]) rfl (RetG.ok_ (by repeat (first | exact bto0 (bdr (ball (Below.refl _ _) _) _) hb1 | refine Below.setCell ?_ (by simp) _)) (by rw [HHR.out]))

        · rw [if_neg h4]
          have e4 : ((s[0].toNat : Int) == 4) = false := beq_eq_false_iff_ne.2 (by omega)
          clear h1 h2 h3 h4
          go_enter Tryd.func26, Tryd.ntmps26
          go_wp2
          go_quiet (fail)
          go_wp2
          exact bodyPost_ret (v := .tuple #[.agg #[.int .u8 0, .int .i64 0, .string ⟨#[]⟩], .string ⟨#[]⟩, .int .i64 6]) (by simp [results, Tryd.results26, go_sem]) rfl (RetG.bad_ (by repeat (first | exact ball (Below.refl _ _) _ | refine bdr ?_ _ | refine Below.setCell ?_ (by simp) _)) rfl)
end Go.Proofs.YtohaplmbgipbcaaDoor
