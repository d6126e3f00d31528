
/-
  The reference's text.
-/
import Derived.Test.YtblpflobpffjnaaDoorVl
namespace Go.Proofs.YtblpflobpffjnaaDoor
open Go.RowKit

theorem parQ_ne {c : UInt8} (h : c ≠ 39) (r : List UInt8) : parQ (c :: r) = (parQ r).map (c :: ·) := by
  cases r with
  | nil => simp [parQ, h]
  | cons d t => simp [parQ, h]
theorem parQ_qq (r : List UInt8) : parQ (39 :: 39 :: r) = (parQ r).map (39 :: ·) := by simp [parQ]
theorem parQ_q1 : parQ [39] = none := rfl
theorem parQ_qn {d : UInt8} (h : d ≠ 39) (r : List UInt8) : parQ (39 :: d :: r) = none := by simp [parQ, h]
/-- What stands between the first and the last byte. -/
def midL (s : ByteArray) : List UInt8 := (s.data.toList.drop 1).take (s.data.toList.length - 2)
theorem mid_len (s : ByteArray) : (midL s).length = s.size - 2 := by
  unfold midL; rw [List.length_take, List.length_drop, len_size]; omega
theorem mid_drop (s : ByteArray) (i : Nat) (h1 : 1 ≤ i) (h2 : i + 1 < s.size) : (midL s).drop (i - 1) = (s[i]'(by omega)) :: (midL s).drop i := by
  have hl := mid_len s
  have e : i - 1 + 1 = i := by omega
  rw [List.drop_eq_getElem_cons (by omega), e]
  congr 1
  unfold midL
  rw [List.getElem_take, List.getElem_drop]
  have : 1 + (i - 1) = i := by omega
  simp only [this]
  rfl
theorem cut_one (s : ByteArray) (i : Nat) (h : i < s.size) : s.extract i (i + 1) = ⟨#[s[i]]⟩ := by
  apply ba_ext
  rw [Lib.extract_data]
  have e : i + 1 - i = 1 := by omega
  have hl : i < s.data.toList.length := by rw [len_size]; exact h
  rw [e, List.drop_eq_getElem_cons hl]
  rfl
theorem app_one (o : List UInt8) (c : UInt8) : (⟨o.toArray⟩ : ByteArray) ++ ⟨#[c]⟩ = ⟨(o ++ [c]).toArray⟩ := by
  apply ByteArray.ext
  rw [ByteArray.data_append]
  simp
theorem u8_ne {c : UInt8} (h : c ≠ 39) : ((c.toNat : Int) == 39) = false ∧ ((c.toNat : Int) != 39) = true := by
  have : (c.toNat : Int) ≠ 39 := fun e => h (UInt8.toNat_inj.1 (by show c.toNat = 39; omega))
  simp [this]
def RetText (l : List UInt8) (w : World) (e : Ending) (w' : World) : Prop := e = .returned (.tuple #[.string ⟨((textR l).getD []).toArray⟩, .bool (textR l).isSome]) ∧ w = w'

set_option maxHeartbeats 2000000 in
theorem text_any (s : ByteArray) (w : World) (hs : s.size ≤ 30000) : Calls Tryd.prog 50 #[.string s] w (RetText s.data.toList w) := by
  by_cases h2 : s.size < 2
  · have e : textR s.data.toList = none := by unfold textR; rw [if_neg (by rw [len_size]; omega)]
    unfold RetText
    rw [e]
    have q : (s.size : Int) < 2 := by omega
    clear e h2
    go_enter Tryd.func50, Tryd.ntmps50
    go_wp2
    go_ret2
    exact ⟨rfl, rfl⟩
  · have q : (2 : Int) ≤ (s.size : Int) := by omega
    have q0 : 0 < s.size := by omega
    have q1 : s.size - 1 < s.size := by omega
    have q2 : (0 : Int) < (s.size : Int) := by omega
    have qd : decide ((s.size : Int) < 2) = false := by simp; omega
    have hh : s.data.toList.head? = some s[0] := by
      have : s.data.toList ≠ [] := by intro e; have := len_size s; rw [e] at this; simp at this; omega
      rw [List.head?_eq_getElem?, List.getElem?_eq_getElem (by rw [len_size]; exact q0)]
      rfl
    have hg : s.data.toList.getLast? = some s[s.size - 1] := by
      rw [List.getLast?_eq_getElem?, len_size, List.getElem?_eq_getElem (by rw [len_size]; exact q1)]
      rfl
    by_cases c0 : s[0] = 39
    rotate_left
    · have e : textR s.data.toList = none := by unfold textR; rw [if_neg (by rw [hh]; rintro ⟨_, h, _⟩; exact c0 (by simpa using h))]
      unfold RetText
      rw [e]
      have g0 := (u8_ne c0).2
      have g0' := (u8_ne c0).1
      clear e h2 hh hg c0
      go_enter Tryd.func50, Tryd.ntmps50
      go_wp2
      go_ret2
      exact ⟨rfl, rfl⟩
    · have g0 : ((s[0].toNat : Int) != 39) = false := by rw [c0]; rfl
      by_cases c1 : s[s.size - 1] = 39
      rotate_left
      · have e : textR s.data.toList = none := by unfold textR; rw [if_neg (by rw [hg]; rintro ⟨_, _, h⟩; exact c1 (by simpa using h))]
        unfold RetText
        rw [e]
        have g1 := (u8_ne c1).2
        clear e h2 hh hg c0 c1
        go_enter Tryd.func50, Tryd.ntmps50
        go_wp2
        go_ret2
        exact ⟨rfl, rfl⟩
      · have g1 : ((s[s.size - 1].toNat : Int) != 39) = false := by rw [c1]; rfl
        have e : textR s.data.toList = parQ (midL s) := by unfold textR; rw [if_pos ⟨by rw [len_size]; omega, by rw [hh, c0], by rw [hg, c1]⟩]; rfl
        have HE := Lib.hid e
        clear e h2 hh hg c0 c1
        have HSz := Lib.hid hs
        go_enter Tryd.func50, Tryd.ntmps50
        go_wp2
        clear g0 g1
        go_loop [4, 5] (fun ov iv => ∃ (i : Nat) (o : List UInt8), 1 ≤ i ∧ i + 1 ≤ s.size ∧ o.length ≤ i ∧ parQ (midL s) = (parQ ((midL s).drop (i - 1))).map (o ++ ·) ∧ ov = .string ⟨o.toArray⟩ ∧ iv = .int .i64 (i : Int)) (fun _ iv => s.size - (intOf iv).toNat)
        case atStart => exact ⟨1, [], by omega, by omega, by simp, by simp, rfl, rfl⟩
        case round =>
          obtain ⟨i, o, hi1, hi2, ho, he, rfl, rfl⟩ := hrel
          have HEE := Lib.hid he
          clear he
          have k0 : (1 : Int) ≤ (i : Int) := by omega
          have kk0 : (0 : Int) ≤ (i : Int) := by omega
          by_cases hlt : i + 1 < s.size
          · have k1 : (i : Int) < (s.size : Int) - 1 := by omega
            have k2 : i < s.size := by omega
            have k3 : (i : Int) < (s.size : Int) := by omega
            have hmd := Lib.hid (mid_drop s i hi1 hlt)
            by_cases hc : s[i] = 39
            · have hcb : ((s[i].toNat : Int) == 39) = true := by rw [hc]; rfl
              by_cases h3 : i + 2 < s.size
              · have k4 : (i : Int) + 1 < (s.size : Int) - 1 := by omega
                have k5 : i + 1 < s.size := by omega
                have k6 : (i : Int) + 1 < (s.size : Int) := by omega
                have kd : decide ((s.size : Int) - 1 ≤ (i : Int) + 1) = false := by simp; omega
                have hmd2 := Lib.hid (mid_drop s (i + 1) (by omega) (by omega))
                by_cases hd : s[i + 1] = 39
                · have hdb : ((s[i + 1].toNat : Int) != 39) = false := by rw [hd]; rfl
                  have hst : Hid (parQ (midL s) = (parQ ((midL s).drop (i + 2 - 1))).map ((o ++ [39]) ++ ·)) := Lib.hid (by
                    have e1 := hmd2.out
                    have e2 := hmd.out
                    rw [show i + 1 - 1 = i from by omega] at e1
                    rw [HEE.out, e2, e1, hc, hd, parQ_qq, show i + 2 - 1 = i + 1 from by omega]
                    cases parQ ((midL s).drop (i + 1)) <;> simp)
                  have hex : Hid ((⟨o.toArray⟩ : ByteArray) ++ s.extract (i + 1) (i + 1 + 1) = ⟨(o ++ [39]).toArray⟩) := Lib.hid (by rw [cut_one s (i + 1) k5, app_one, hd])
                  clear hc hd hmd2 hmd
                  go_wp2
                  go_round
                  case rel => exact ⟨i + 2, o ++ [39], by omega, by omega, by simp; omega, hst.out, by rw [hex.out], by go_num⟩
                  case measure => simp [intOf]; omega
                · have hdb := (u8_ne hd).2
                  have hno : Hid (textR s.data.toList = none) := Lib.hid (by
                    have e1 := hmd2.out
                    have e2 := hmd.out
                    rw [show i + 1 - 1 = i from by omega] at e1
                    rw [HE.out, HEE.out, e2, e1, hc, parQ_qn hd]
                    rfl)
                  clear hc hd hmd2 hmd
                  go_wp2
                  go_ret2
                  exact ⟨by rw [hno.out]; rfl, rfl⟩
              · have k4 : (s.size : Int) - 1 ≤ (i : Int) + 1 := by omega
                have hno : Hid (textR s.data.toList = none) := Lib.hid (by
                  have e2 := hmd.out
                  rw [HE.out, HEE.out, e2, hc, List.drop_eq_nil_of_le (by rw [mid_len]; omega)]
                  rfl)
                clear hc hmd
                go_wp2
                go_ret2
                exact ⟨by rw [hno.out]; rfl, rfl⟩
            · have hcb := (u8_ne hc).1
              have hst : Hid (parQ (midL s) = (parQ ((midL s).drop (i + 1 - 1))).map ((o ++ [s[i]]) ++ ·)) := Lib.hid (by
                have e2 := hmd.out
                rw [HEE.out, e2, parQ_ne hc, show i + 1 - 1 = i from by omega]
                cases parQ ((midL s).drop i) <;> simp)
              have hex : Hid ((⟨o.toArray⟩ : ByteArray) ++ s.extract i (i + 1) = ⟨(o ++ [s[i]]).toArray⟩) := Lib.hid (by rw [cut_one s i k2, app_one])
              clear hc hmd
              go_wp2
              go_round
              case rel => exact ⟨i + 1, o ++ [s[i]], by omega, by omega, by simp; omega, hst.out, by rw [hex.out], by go_num⟩
              case measure => simp [intOf]; omega
          · have k1 : (s.size : Int) - 1 ≤ (i : Int) := by omega
            have hnil : (midL s).drop (i - 1) = [] := List.drop_eq_nil_of_le (by rw [mid_len]; omega)
            have hfin : Hid (textR s.data.toList = some o) := Lib.hid (by rw [HE.out, HEE.out, hnil]; simp [parQ])
            clear hnil
            go_wp2
            go_ret2
            exact ⟨by rw [hfin.out]; rfl, rfl⟩
end Go.Proofs.YtblpflobpffjnaaDoor
