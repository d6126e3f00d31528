
/-
  The program's Read at every text.
-/
import Derived.Test.YtblpflobpffjnaaDoorVp
namespace Go.Proofs.YtblpflobpffjnaaDoor
open Go.RowKit

theorem guess_any (s : ByteArray) (w : World) (hv : VO w) (hs : s.size ≤ 10000) : Calls Tryd.prog 47 #[.string s] w (RetB w (guessL s.data.toList).agg) := by
  by_cases h1 : s.data.toList = wTrue
  · have e : guessL s.data.toList = ⟨2, 1, ⟨#[]⟩⟩ := by unfold guessL; rw [if_pos h1]
    rw [e]
    exact gt_any s true w (beqL h1) (.inl rfl)
  · by_cases h2 : s.data.toList = wFalse
    · have e : guessL s.data.toList = ⟨2, 0, ⟨#[]⟩⟩ := by unfold guessL; rw [if_neg h1, if_pos h2]
      rw [e]
      exact gt_any s false w (bneL h1) (.inr (beqL h2))
    · by_cases h3 : 2 ≤ s.data.toList.length ∧ s.data.toList.head? = some 39
      · have e : guessL s.data.toList = vQ s := by
          have hsz : 2 ≤ s.size := by rw [← len_size]; exact h3.1
          unfold guessL vQ
          rw [if_neg h1, if_neg h2, if_pos h3, mid_eq s hsz]
        rw [e]
        obtain ⟨h4, h5⟩ := h3
        rw [len_size] at h4
        have h6 : s[0] = 39 := by
          rw [List.head?_eq_getElem?, List.getElem?_eq_getElem (by rw [len_size]; omega)] at h5
          exact Option.some.inj h5
        exact guess_q s w hv.m hs h4 (by rw [h6]; rfl) (bneL h1) (bneL h2)
      · have e : guessL s.data.toList = numG s.data.toList := by unfold guessL; rw [if_neg h1, if_neg h2, if_neg h3]
        rw [e]
        refine guess_n s w hv hs (bneL h1) (bneL h2) ?_
        by_cases hq : s.size ≤ 1
        · exact .inl (by omega)
        · refine .inr ⟨by omega, fun h6 => h3 ⟨by rw [len_size]; omega, ?_⟩⟩
          rw [List.head?_eq_getElem?, List.getElem?_eq_getElem (by rw [len_size]; omega)]
          exact congrArg some h6
theorem guess_ok (s : ByteArray) (hs : s.size ≤ 10000) (hb : -9223372036854775808 ≤ (guessL s.data.toList).i ∧ (guessL s.data.toList).i ≤ 9223372036854775807) : (guessL s.data.toList).ok ∧ (guessL s.data.toList).s.size ≤ 10000 := by
  have hz : (0 : Nat) ≤ 10000 := by decide
  have he : (⟨#[]⟩ : ByteArray).size = 0 := rfl
  have hk : ∀ v : Vl, (v.k = 0 ∨ v.k = 1 ∨ v.k = 2 ∨ v.k = 3) → v.s.size ≤ 10000 → (-9223372036854775808 ≤ v.i ∧ v.i ≤ 9223372036854775807) → v.ok ∧ v.s.size ≤ 10000 := fun v h1 h2 h3 => ⟨⟨by omega, h3, by unfold maxLen; omega⟩, h2⟩
  refine hk _ ?_ ?_ hb
  · unfold guessL numG
    split
    · exact .inr (.inr (.inl rfl))
    · split
      · exact .inr (.inr (.inl rfl))
      · split
        · exact .inr (.inr (.inr rfl))
        · split
          · exact .inr (.inl rfl)
          · exact .inl rfl
  · unfold guessL numG
    split
    · exact hz
    · split
      · exact hz
      · split
        · show (und _).size ≤ 10000
          have := undL_len ((s.data.toList.drop 1).take (s.data.toList.length - 2))
          rw [← len_size, und_list]
          rw [List.length_take, List.length_drop] at this
          have := len_size s
          omega
        · split
          · exact hz
          · exact hz
theorem guess_bd (l : List UInt8) : -9223372036854775808 ≤ (guessL l).i ∧ (guessL l).i ≤ 9223372036854775807 := by
  have hn : -9223372036854775808 ≤ (numG l).i ∧ (numG l).i ≤ 9223372036854775807 := by
    unfold numG
    cases h : Lib.parseIntB 64 l with
    | ok n =>
      show -9223372036854775808 ≤ n ∧ n ≤ 9223372036854775807
      cases l with
      | nil => cases h
      | cons c r =>
        cases hu : Lib.parseUintB 64 (if c.toNat = 43 ∨ c.toNat = 45 then r else c :: r) with
        | ok u =>
          rw [pib_ok c r u hu] at h
          split at h
          · cases h
          · split at h
            · cases h
            · injection h with h
              subst h
              split <;> omega
        | _ => simp only [Lib.parseIntB, hu] at h; cases h
    | _ => exact ⟨by decide, by decide⟩
  unfold guessL
  split
  · exact ⟨by decide, by decide⟩
  · split
    · exact ⟨by decide, by decide⟩
    · split
      · exact ⟨by show (-9223372036854775808 : Int) ≤ 0; decide, by show (0 : Int) ≤ 9223372036854775807; decide⟩
      · exact hn

set_option maxHeartbeats 2000000 in
theorem read_any (s : ByteArray) (w : World) (hv : VO w) (hs : s.size ≤ 10000) :
    Calls Tryd.prog 29 #[.string s] w (RetB w (tupV (readL s.data.toList))) := by
  have Hg := fun W (h : VO W) => guess_any s W h hs
  have hgb := guess_bd s.data.toList
  obtain ⟨hok, hsz⟩ := guess_ok s hs hgb
  have Hy := fun W => may_any (guessL s.data.toList) hok W
  have Hs := fun W (h : VO W) => show_any (guessL s.data.toList) W h hgb.1 hgb.2 hsz
  have HM := fun (W : World) (hb : Below w.heap.size w W) => hv.below0 hb
  have hlt := hv.m.lt
  have hread : readL s.data.toList = if (mayV (guessL s.data.toList) && ((showV (guessL s.data.toList)).toList == s.toList)) = true then (guessL s.data.toList, true) else (vZero, false) := by
    unfold readL
    have : (mayV (guessL s.data.toList) = true ∧ showL (guessL s.data.toList) = s.data.toList) ↔ (mayV (guessL s.data.toList) && ((showV (guessL s.data.toList)).toList == s.toList)) = true := by
      rw [ByteArray.toList_eq, ByteArray.toList_eq, show_list, Bool.and_eq_true, beq_iff_eq]
    by_cases h : mayV (guessL s.data.toList) = true ∧ showL (guessL s.data.toList) = s.data.toList
    · rw [if_pos h, if_pos (this.1 h)]
    · rw [if_neg h, if_neg (fun x => h (this.2 x))]
  rw [hread]
  obtain ⟨t, ht⟩ : ∃ t, showV (guessL s.data.toList) = t := ⟨_, rfl⟩
  obtain ⟨y, hy⟩ : ∃ y, mayV (guessL s.data.toList) = y := ⟨_, rfl⟩
  rw [ht] at Hs ⊢
  rw [hy] at Hy ⊢
  obtain ⟨g, hg⟩ : ∃ g, guessL s.data.toList = g := ⟨_, rfl⟩
  rw [hg] at Hs Hy Hg ⊢
  obtain ⟨k, i, u⟩ := g
  unfold Vl.agg at Hs Hy Hg
  simp only at Hs Hy Hg
  have HG := Lib.hid Hg; clear Hg
  have HY := Lib.hid Hy; clear Hy
  have HS := Lib.hid Hs; clear Hs
  have HMx := Lib.hid HM; clear HM
  have hm0 := Lib.hid hv
  clear hg hok hsz hv hread hgb ht hy
  obtain ⟨r, hr⟩ : ∃ r, (y && (t.toList == s.toList)) = r := ⟨_, rfl⟩
  rw [hr]
  have HR := Lib.hid hr; clear hr
  have EF : tupV (if false = true then ((⟨k, i, u⟩ : Vl), true) else (vZero, false)) = .tuple #[.agg #[.int .u8 0, .int .i64 0, .string ⟨#[]⟩], .bool false] := rfl
  have ET : tupV (if true = true then ((⟨k, i, u⟩ : Vl), true) else (vZero, false)) = .tuple #[.agg #[.int .u8 k, .int .i64 i, .string u], .bool true] := rfl
  cases r
  rotate_left
  · rw [ET]
    clear EF ET
    obtain ⟨rfl, hts⟩ : y = true ∧ (t.toList == s.toList) = true := by have := HR.out; simpa using this
    have hne : (!t.toList == s.toList) = false := by rw [hts]; rfl
    clear hts
    go_enter Tryd.func29, Tryd.ntmps29
    go_wp2_with fail
    refine (HG.out _ (HMx.out _ (ball (Below.refl _ _) _))).mono ?_
    rintro e w1 ⟨rfl, hb1⟩
    have hz1 : w.heap.size < w1.heap.size := by have := hb1.size; simp at this; omega
    have Q1 := Lib.hid ((At3.new w 0 0 ⟨#[]⟩ 55).below hb1 (by simp))
    obtain ⟨c0, c1, c2, f0, f1, f2⟩ := Q1.out
    have HM0 := Lib.hid (HMx.out w1 (bto0 (ball (Below.refl _ _) _) hb1))
    go_wp2_with fail
    refine (HY.out _).mono ?_
    rintro e w2 ⟨rfl, hb2⟩
    clear c0 c1 c2 f0 f1 f2
    have hz2 : w1.heap.size < w2.heap.size := by have := hb2.size; simp at this; omega
    have Q2 := Lib.hid ((Q1.out.alloc _).below hb2 (by simp; omega))
    obtain ⟨c0, c1, c2, f0, f1, f2⟩ := Q2.out
    obtain ⟨d0, d1, d2, -, -, -⟩ := (At3.new w1 k i u 55).below hb2 (by simp)
    have HM2 := Lib.hid (HM0.out.below0 (ball (Below.refl _ _) (.cells #[.int .u8 k, .int .i64 i, .string u] 55)))
    have HM3 := Lib.hid (HM2.out.below0 hb2)
    go_wp2_with (go_at_call 27; refine (HS.out _ HM3.out).mono ?_; rintro e w3 ⟨rfl, hb3⟩; clear c0 c1 c2 f0 f1 f2 d0 d1 d2; obtain ⟨c0, c1, c2, f0, f1, f2⟩ := Q2.out.below0 hb3; obtain ⟨d0, d1, d2, -, -, -⟩ := ((At3.new w1 k i u 55).below hb2 (by simp)).below0 hb3)
    refine bodyPost_ret (v := .tuple #[.agg #[.int .u8 k, .int .i64 i, .string u], .bool true]) (by simp [results, Tryd.results29, go_sem, c0, c1, c2]) rfl ⟨rfl, ?_⟩
    repeat (first | exact bto0 (bto0 (ball (bto0 (ball (Below.refl _ _) _) hb1) _) hb2) hb3 | refine Below.setCell ?_ (by simp) _)
  · rw [EF]
    clear EF ET
    have hcs : y = false ∨ (y = true ∧ (!t.toList == s.toList) = true) := by
      have := HR.out
      cases y
      · exact .inl rfl
      · exact .inr ⟨rfl, by simpa using this⟩
    rcases hcs with rfl | ⟨rfl, hne⟩
    all_goals
      go_enter Tryd.func29, Tryd.ntmps29
      go_wp2_with fail
      refine (HG.out _ (HMx.out _ (ball (Below.refl _ _) _))).mono ?_
      rintro e w1 ⟨rfl, hb1⟩
      have hz1 : w.heap.size < w1.heap.size := by have := hb1.size; simp at this; omega
      have Q1 := Lib.hid ((At3.new w 0 0 ⟨#[]⟩ 55).below hb1 (by simp))
      obtain ⟨c0, c1, c2, f0, f1, f2⟩ := Q1.out
      have HM0 := Lib.hid (HMx.out w1 (bto0 (ball (Below.refl _ _) _) hb1))
      go_wp2_with fail
      refine (HY.out _).mono ?_
      rintro e w2 ⟨rfl, hb2⟩
      clear c0 c1 c2 f0 f1 f2
      have hz2 : w1.heap.size < w2.heap.size := by have := hb2.size; simp at this; omega
      have Q2 := Lib.hid ((Q1.out.alloc _).below hb2 (by simp; omega))
      obtain ⟨c0, c1, c2, f0, f1, f2⟩ := Q2.out
      obtain ⟨d0, d1, d2, -, -, -⟩ := (At3.new w1 k i u 55).below hb2 (by simp)
      have HM2 := Lib.hid (HM0.out.below0 (ball (Below.refl _ _) (.cells #[.int .u8 k, .int .i64 i, .string u] 55)))
      have HM3 := Lib.hid (HM2.out.below0 hb2)
      go_wp2_with (go_at_call 27; refine (HS.out _ HM3.out).mono ?_; rintro e w3 ⟨rfl, hb3⟩; clear c0 c1 c2 f0 f1 f2 d0 d1 d2; obtain ⟨c0, c1, c2, f0, f1, f2⟩ := Q2.out.below0 hb3; obtain ⟨d0, d1, d2, -, -, -⟩ := ((At3.new w1 k i u 55).below hb2 (by simp)).below0 hb3)
      refine bodyPost_ret (v := .tuple #[.agg #[.int .u8 0, .int .i64 0, .string ⟨#[]⟩], .bool false]) (by simp [results, Tryd.results29, go_sem, c0, c1, c2]) rfl ⟨rfl, ?_⟩
      repeat (first | exact bto0 (bto0 (ball (bto0 (ball (Below.refl _ _) _) hb1) _) hb2) hb3 | exact bto0 (ball (bto0 (ball (Below.refl _ _) _) hb1) _) hb2 | refine Below.setCell ?_ (by simp) _)
end Go.Proofs.YtblpflobpffjnaaDoor
