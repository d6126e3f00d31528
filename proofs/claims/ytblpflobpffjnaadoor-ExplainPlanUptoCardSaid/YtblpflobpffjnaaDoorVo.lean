
/-
  The reference's Show and Read.
-/
import Derived.Test.YtblpflobpffjnaaDoorVn
namespace Go.Proofs.YtblpflobpffjnaaDoor
open Go.RowKit

theorem dblL_cons (c : UInt8) (r : List UInt8) : dblL (c :: r) = if c = 39 then 39 :: 39 :: dblL r else c :: dblL r := rfl
theorem dblL_app : ∀ (a b : List UInt8), dblL (a ++ b) = dblL a ++ dblL b
  | [], _ => rfl
  | c :: r, b => by
    rw [List.cons_append, dblL_cons, dblL_cons, dblL_app r b]
    split <;> simp
theorem dbl_take (s : ByteArray) (i : Nat) (h : i < s.size) : dblL (s.data.toList.take (i + 1)) = dblL (s.data.toList.take i) ++ (if s[i] = 39 then [39, 39] else [s[i]]) := by
  have hl : i < s.data.toList.length := by rw [len_size]; exact h
  rw [List.take_succ_eq_append_getElem hl, dblL_app]
  congr 1
theorem showT_2 (i : Int) (s : ByteArray) : showV ⟨2, i, s⟩ = if i = 0 then ⟨#[70, 65, 76, 83, 69]⟩ else ⟨#[84, 82, 85, 69]⟩ := rfl

set_option maxHeartbeats 2000000 in
theorem rshow_any (v : Vl) (w : World) (hi0 : -9223372036854775808 ≤ v.i) (hi1 : v.i ≤ 9223372036854775807) (hs : v.s.size ≤ 10000) :
    Calls Tryd.prog 33 #[v.agg] w (RetB w (.string (showV v))) := by
  have hsl := show_list v
  obtain ⟨k, i, s⟩ := v
  unfold Vl.agg
  simp only at *
  by_cases h1 : k = 1
  · subst h1
    have e : showV ⟨1, i, s⟩ = ⟨(Lib.itoa i).toArray⟩ := rfl
    rw [e]
    have HD := Lib.hid fun W => decimal_any i hi0 hi1 W
    generalize (⟨(Lib.itoa i).toArray⟩ : ByteArray) = t at *
    clear e hsl hi0 hi1
    go_enter Tryd.func33, Tryd.ntmps33
    go_wp2_with (go_at_call 52; refine (HD.out _).mono ?_; rintro e w' ⟨rfl, rfl⟩)
    go_ret
    exact ⟨rfl, ball (Below.refl _ _) _⟩
  · have e1 : (k == 1) = false := by simpa using h1
    by_cases h2 : k = 2
    · subst h2
      rw [showT_2]
      by_cases hi : i = 0
      · subst hi
        clear hsl
        go_enter Tryd.func33, Tryd.ntmps33
        go_wp2
        go_ret
        exact ⟨rfl, ball (Below.refl _ _) _⟩
      · have hi' : (i != 0) = true := by simpa using hi
        rw [if_neg hi]
        clear hsl
        go_enter Tryd.func33, Tryd.ntmps33
        go_wp2
        go_ret
        exact ⟨rfl, ball (Below.refl _ _) _⟩
    · have e2 : (k == 2) = false := by simpa using h2
      by_cases h3 : k = 3
      · subst h3
        have e : showV ⟨3, i, s⟩ = ⟨(39 :: (dblL s.data.toList ++ [39])).toArray⟩ := ba_ext (hsl.trans rfl)
        rw [e]
        clear e hsl
        have HLs := Lib.hid (len_size s)
        go_enter Tryd.func33, Tryd.ntmps33
        go_wp2
        go_loop [3, 4] (fun ov iv => ∃ (i : Nat) (o : List UInt8), i ≤ s.size ∧ o.length ≤ 2 * i + 1 ∧ o = 39 :: dblL (s.data.toList.take i) ∧ ov = .string ⟨o.toArray⟩ ∧ iv = .int .i64 (i : Int)) (fun _ iv => s.size - (intOf iv).toNat)
        case atStart => exact ⟨0, [39], by omega, by simp, rfl, rfl, rfl⟩
        case round =>
          obtain ⟨j, o, hj, ho, he, rfl, rfl⟩ := hrel
          have HE := Lib.hid he
          clear he
          have k0 : (0 : Int) ≤ (j : Int) := by omega
          by_cases hlt : j < s.size
          · have k1 : (j : Int) < (s.size : Int) := by omega
            have hst := dbl_take s j hlt
            have hex : Hid ((⟨o.toArray⟩ : ByteArray) ++ s.extract j (j + 1) = ⟨(o ++ [s[j]]).toArray⟩) := Lib.hid (by rw [cut_one s j hlt, app_one])
            by_cases hc : s[j] = 39
            · rw [if_pos hc] at hst
              have hcb : ((s[j].toNat : Int) == 39) = true := by rw [hc]; rfl
              have HS : Hid (o ++ [s[j], 39] = 39 :: dblL (s.data.toList.take (j + 1))) := Lib.hid (by rw [hst, hc, HE.out]; rfl)
              have hex2 : Hid (((⟨o.toArray⟩ : ByteArray) ++ s.extract j (j + 1)) ++ ⟨#[39]⟩ = ⟨(o ++ [s[j], 39]).toArray⟩) := Lib.hid (by rw [hex.out, app_one]; simp)
              clear hst hc
              go_wp2
              go_round
              case rel => exact ⟨j + 1, o ++ [s[j], 39], by omega, by simp; omega, HS.out, by rw [hex2.out], by go_num⟩
              case measure => simp [intOf]; omega
            · rw [if_neg hc] at hst
              have hcb := (u8_ne hc).1
              have HS : Hid (o ++ [s[j]] = 39 :: dblL (s.data.toList.take (j + 1))) := Lib.hid (by rw [hst, HE.out]; rfl)
              clear hst hc
              go_wp2
              go_round
              case rel => exact ⟨j + 1, o ++ [s[j]], by omega, by simp; omega, HS.out, by rw [hex.out], by go_num⟩
              case measure => simp [intOf]; omega
          · have hfin : Hid ((⟨o.toArray⟩ : ByteArray) ++ ⟨#[39]⟩ = ⟨(39 :: (dblL s.data.toList ++ [39])).toArray⟩) := Lib.hid (by
              rw [app_one, HE.out, List.take_of_length_le (by rw [HLs.out]; omega)]; rfl)
            go_wp2
            go_ret
            exact ⟨by rw [hfin.out]; rfl, ball (Below.refl _ _) _⟩
      · have e3 : (k == 3) = false := by simpa using h3
        have e : showV ⟨k, i, s⟩ = ⟨#[78, 85, 76, 76]⟩ := by unfold showV showT; rw [if_neg h1, if_neg h2, if_neg h3]
        rw [e]
        clear hsl e
        go_enter Tryd.func33, Tryd.ntmps33
        go_wp2
        go_ret
        exact ⟨rfl, ball (Below.refl _ _) _⟩

def tupV (r : Vl × Bool) : Value := .tuple #[r.1.agg, .bool r.2]
theorem beqL {s : ByteArray} {l : List UInt8} (h : s.data.toList = l) : (s.toList == l) = true := by rw [ByteArray.toList_eq, h]; simp
theorem bneL {s : ByteArray} {l : List UInt8} (h : s.data.toList ≠ l) : (s.toList == l) = false := by rw [ByteArray.toList_eq]; simpa using h
set_option maxHeartbeats 2000000 in
theorem rread_any (s : ByteArray) (w : World) (hs : s.size ≤ 30000) : Calls Tryd.prog 32 #[.string s] w (RetB w (tupV (rreadL s.data.toList))) := by
  have HT := Lib.hid fun W => text_any s W hs
  have HNm := Lib.hid fun W => number_any s W hs
  unfold rreadL
  by_cases h1 : s.data.toList = wNull
  · rw [if_pos h1]
    have g1 := beqL h1
    have HF : Hid (tupV (vZero, true) = .tuple #[.agg #[.int .u8 0, .int .i64 0, .string ⟨#[]⟩], .bool true]) := Lib.hid rfl
    clear h1
    unfold wNull at g1
    go_enter Tryd.func32, Tryd.ntmps32
    go_wp2
    exact bodyPost_ret (v := .tuple #[.agg #[.int .u8 0, .int .i64 0, .string ⟨#[]⟩], .bool true]) (by simp [results, Tryd.results32, go_sem]) rfl ⟨by rw [HF.out], by (repeat (first | exact ball (Below.refl _ _) _ | refine Below.setCell ?_ (by simp) _))⟩
  · rw [if_neg h1]
    have g1 := bneL h1
    unfold wNull at g1
    by_cases h2 : s.data.toList = wTrue
    · rw [if_pos h2]
      have g2 := beqL h2
      unfold wTrue at g2
      have HF : Hid (tupV (⟨2, 1, ⟨#[]⟩⟩, true) = .tuple #[.agg #[.int .u8 2, .int .i64 1, .string ⟨#[]⟩], .bool true]) := Lib.hid rfl
      clear h1 h2
      go_enter Tryd.func32, Tryd.ntmps32
      go_wp2
      exact bodyPost_ret (v := .tuple #[.agg #[.int .u8 2, .int .i64 1, .string ⟨#[]⟩], .bool true]) (by simp [results, Tryd.results32, go_sem]) rfl ⟨by rw [HF.out], by (repeat (first | exact ball (Below.refl _ _) _ | refine Below.setCell ?_ (by simp) _))⟩
    · rw [if_neg h2]
      have g2 := bneL h2
      unfold wTrue at g2
      by_cases h3 : s.data.toList = wFalse
      · rw [if_pos h3]
        have g3 := beqL h3
        unfold wFalse at g3
        have HF : Hid (tupV (⟨2, 0, ⟨#[]⟩⟩, true) = .tuple #[.agg #[.int .u8 2, .int .i64 0, .string ⟨#[]⟩], .bool true]) := Lib.hid rfl
        clear h1 h2 h3
        go_enter Tryd.func32, Tryd.ntmps32
        go_wp2
        exact bodyPost_ret (v := .tuple #[.agg #[.int .u8 2, .int .i64 0, .string ⟨#[]⟩], .bool true]) (by simp [results, Tryd.results32, go_sem]) rfl ⟨by rw [HF.out], by (repeat (first | exact ball (Below.refl _ _) _ | refine Below.setCell ?_ (by simp) _))⟩
      · rw [if_neg h3]
        have g3 := bneL h3
        unfold wFalse at g3
        clear h1 h2 h3
        by_cases hq : ∃ t, textR s.data.toList = some t ∧ t.length ≤ 48
        · obtain ⟨t, ht, hl⟩ := hq
          rw [ht]
          simp only
          rw [if_pos hl]
          have HF : Hid (tupV (⟨3, 0, ⟨t.toArray⟩⟩, true) = .tuple #[.agg #[.int .u8 3, .int .i64 0, .string ⟨t.toArray⟩], .bool true]) := Lib.hid rfl
          unfold RetText at HT
          rw [ht] at HT
          have hsz : ((⟨t.toArray⟩ : ByteArray).size : Int) ≤ 48 := by show ((t.toArray.size : Nat) : Int) ≤ 48; simp; omega
          simp only [Option.getD_some, Option.isSome_some] at HT
          generalize (⟨t.toArray⟩ : ByteArray) = u at *
          clear ht hl
          go_enter Tryd.func32, Tryd.ntmps32
          go_wp2_with (go_at_call 50; refine (HT.out _).mono ?_; rintro e w' ⟨rfl, rfl⟩)
          exact bodyPost_ret (v := .tuple #[.agg #[.int .u8 3, .int .i64 0, .string u], .bool true]) (by simp [results, Tryd.results32, go_sem]) rfl ⟨by rw [HF.out], by (repeat (first | exact ball (Below.refl _ _) _ | refine Below.setCell ?_ (by simp) _))⟩
        · suffices H : Calls Tryd.prog 32 #[.string s] w (RetB w (tupV (numR s.data.toList))) by
            cases ht : textR s.data.toList with
            | none => exact H
            | some t => simp only; rw [if_neg fun h => hq ⟨t, ht, h⟩]; exact H
          obtain ⟨u, b, hu, hb⟩ : ∃ (u : ByteArray) (b : Bool), Hid (∀ W, Calls Tryd.prog 50 #[.string s] W fun e w' => e = .returned (.tuple #[.string u, .bool b]) ∧ W = w') ∧ (b = false ∨ b = true ∧ (48 : Int) < (u.size : Int)) := by
            cases ht : textR s.data.toList with
            | none => exact ⟨⟨#[]⟩, false, Lib.hid fun W => (HT.out W).mono fun e w' h => by unfold RetText at h; rw [ht] at h; exact h, .inl rfl⟩
            | some t => exact ⟨⟨t.toArray⟩, true, Lib.hid fun W => (HT.out W).mono fun e w' h => by unfold RetText at h; rw [ht] at h; exact h, .inr ⟨rfl, by
                have : ¬ t.length ≤ 48 := fun h => hq ⟨t, ht, h⟩
                show (48 : Int) < ((t.toArray.size : Nat) : Int); simp; omega⟩⟩
          clear hq HT
          unfold RetNum at HNm
          unfold numR
          by_cases hn : (numL s.data.toList).2 = true
          · rw [if_pos hn]
            rw [hn] at HNm
            have HF : Hid (tupV (⟨1, (numL s.data.toList).1, ⟨#[]⟩⟩, true) = .tuple #[.agg #[.int .u8 1, .int .i64 (numL s.data.toList).1, .string ⟨#[]⟩], .bool true]) := Lib.hid rfl
            generalize (numL s.data.toList).1 = n at *
            clear hn
            rcases hb with rfl | ⟨rfl, hb⟩
            all_goals
              go_enter Tryd.func32, Tryd.ntmps32
              go_wp2_with (first | (go_at_call 50; refine (hu.out _).mono ?_; rintro e w' ⟨rfl, rfl⟩) | (go_at_call 51; refine (HNm.out _).mono ?_; rintro e w' ⟨rfl, rfl⟩))
              exact bodyPost_ret (v := .tuple #[.agg #[.int .u8 1, .int .i64 n, .string ⟨#[]⟩], .bool true]) (by simp [results, Tryd.results32, go_sem]) rfl ⟨by rw [HF.out], by (repeat (first | exact ball (Below.refl _ _) _ | refine Below.setCell ?_ (by simp) _))⟩
          · rw [if_neg hn]
            have hn' : (numL s.data.toList).2 = false := by simpa using hn
            rw [hn'] at HNm
            have HF : Hid (tupV (vZero, false) = .tuple #[.agg #[.int .u8 0, .int .i64 0, .string ⟨#[]⟩], .bool false]) := Lib.hid rfl
            generalize (numL s.data.toList).1 = n at *
            clear hn hn'
            rcases hb with rfl | ⟨rfl, hb⟩
            all_goals
              go_enter Tryd.func32, Tryd.ntmps32
              go_wp2_with (first | (go_at_call 50; refine (hu.out _).mono ?_; rintro e w' ⟨rfl, rfl⟩) | (go_at_call 51; refine (HNm.out _).mono ?_; rintro e w' ⟨rfl, rfl⟩))
              exact bodyPost_ret (v := .tuple #[.agg #[.int .u8 0, .int .i64 0, .string ⟨#[]⟩], .bool false]) (by simp [results, Tryd.results32, go_sem]) rfl ⟨by rw [HF.out], by (repeat (first | exact ball (Below.refl _ _) _ | refine Below.setCell ?_ (by simp) _))⟩
end Go.Proofs.YtblpflobpffjnaaDoor
